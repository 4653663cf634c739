
import Derived.Test.YtbbfcbodhmeanaaGreatDoorXrewriteonly37
import Derived.Laws.OwnMore
import Derived.Laws.CopyRow
import Derived.Laws.Cover3
namespace Go.Proofs.YtbbfcbodhmeanaaGreatDoor
open Go.RowKit
theorem cnts_append (l m:List (PT × PT)):cnts (l ++ m) = cnts l + cnts m:=by simp [cnts]
theorem cnts_zip:∀ (a b:List PT),a.length = b.length→cnts (a.zip b) = (a.map cnt).sum
 | [],[],_=>rfl
 | [],_::_,h=>by simp at h
 | _::_,[],h=>by simp at h
 | x::a,y::b,h=>by
  have:=cnts_zip a b (by simpa using h)
  simp only [cnts,List.zip_cons_cons,List.map_cons,List.sum_cons] at this ⊢
  rw [this]
theorem zip_same:∀ (a b:List PT),a.length = b.length→((∀ x ∈ a.zip b,x.1 = x.2) ↔ a = b)
 | [],[],_=>by simp
 | [],_::_,h=>by simp at h
 | _::_,[],h=>by simp at h
 | x::a,y::b,h=>by
  have:=zip_same a b (by simpa using h)
  rw [List.zip_cons_cons,List.forall_mem_cons,this]
  simp
theorem zip_snoc (a b:List PT) (k:Nat) (ha:k < a.length) (hb:k < b.length):(a.zip b).take (k + 1) = (a.zip b).take k ++ [(a.getD k pt0,b.getD k pt0)]:=by
 rw [List.take_add_one]
 congr 1
 have hl:k < (a.zip b).length:=by rw [List.length_zip];omega
 rw [List.getElem?_eq_getElem hl,List.getElem_zip]
 simp [List.getD_eq_getElem?_getD,List.getElem?_eq_getElem ha,List.getElem?_eq_getElem hb]
abbrev PX2:=(Nat × Nat) × (Nat × Nat)
def prv (X:List PX2):List Value:=X.flatMap fun x=>[.pointer (some ⟨x.1.1,x.1.2,none⟩),.pointer (some ⟨x.2.1,x.2.2,none⟩)]
theorem prv_length:∀ X:List PX2,(prv X).length = X.length * 2
 | []=>rfl
 | x::X=>by show ([_,_] ++ prv X).length = _;rw [List.length_append,prv_length X];simp;omega
theorem prv_snoc (X:List PX2) (x:PX2):prv (X ++ [x]) = prv X ++ [.pointer (some ⟨x.1.1,x.1.2,none⟩),.pointer (some ⟨x.2.1,x.2.2,none⟩)]:=by simp [prv]
def PrLs (w:World) (X:List PX2) (L:List (PT × PT)):Prop :=
 X.length = L.length∧∀ (i:Nat) x q,X[i]? = some x→L[i]? = some q→(∃ f,PAt w f x.1.1 x.1.2 q.1)∧∃ f,PAt w f x.2.1 x.2.2 q.2
theorem PrLs.nil (w:World):PrLs w [] []:=⟨rfl,fun i x q h=>by simp at h⟩
theorem PrLs.snoc {w:World} {X:List PX2} {L:List (PT × PT)} (h:PrLs w X L) {b o b' o':Nat} {p q:PT} {f f':Nat} (hp:PAt w f b o p) (hq:PAt w f' b' o' q):PrLs w (X ++ [((b,o),(b',o'))]) (L ++ [(p,q)]):=by
 refine ⟨by rw [List.length_append,List.length_append,h.1];rfl,fun i x r hx hr=>?_⟩
 by_cases hi:i < X.length
 ·rw [List.getElem?_append_left hi] at hx
  rw [List.getElem?_append_left (by rw [← h.1];exact hi)] at hr
  exact h.2 i x r hx hr
 ·rw [List.getElem?_append_right (by omega)] at hx
  rw [List.getElem?_append_right (by rw [← h.1];omega),← h.1] at hr
  cases hd:i - X.length with
  | zero =>
   rw [hd] at hx hr
   obtain rfl:=Option.some.inj hx
   obtain rfl:=Option.some.inj hr
   exact ⟨⟨f,hp⟩,f',hq⟩
  | succ n=>rw [hd] at hx;simp at hx
theorem PrLs.last {w wr:World} {B e:Nat} {X:List PX2} {L:List (PT × PT)} {v:Value} (h:PrLs w X L) (hne:L ≠ []) (ho:wr.ownsRow B e 2 v L.length (prv X)) :
  ∃ (L':List (PT × PT)) (x y:PT) (X':List PX2) (bx ox bY oY f f' g cap:Nat),L = L' ++ [(x,y)]∧v = .slice (some ⟨g,0,none⟩) (L'.length + 1) cap∧PrLs w X' L'∧PAt w f bx ox x∧PAt w f' bY oY y ∧
   wr.ownsRow B e 2 (.slice (some ⟨g,0,none⟩) L'.length cap) L'.length (prv X')∧wr.cell? ⟨g,L'.length * 2,none⟩ = some (.pointer (some ⟨bx,ox,none⟩))∧wr.cell? ⟨g,L'.length * 2 + 1,none⟩ = some (.pointer (some ⟨bY,oY,none⟩))∧L'.length + 1≤cap:=by
 rcases List.eq_nil_or_concat L with hL | ⟨L',⟨x,y⟩,hL⟩
 ·exact absurd hL hne
 ·rw [List.concat_eq_append] at hL
  subst hL
  rcases List.eq_nil_or_concat X with hX | ⟨X',⟨⟨bx,ox⟩,⟨bY,oY⟩⟩,hX⟩
  ·have:=h.1;rw [hX] at this;simp at this
  ·rw [List.concat_eq_append] at hX
   subst hX
   have hlen:X'.length = L'.length:=by have:=h.1;simpa using this
   rw [List.length_append] at ho
   have hl1:L'.length + [(x,y)].length = L'.length + 1:=rfl
   rw [hl1] at ho
   obtain ⟨g,cap,rfl⟩:∃ g cap,v = .slice (some ⟨g,0,none⟩) (L'.length + 1) cap:=by
    rcases ho.2 with ⟨_,h0⟩ | ⟨g,cap,cur,hv,_⟩
    ·cases h0
    ·exact ⟨g,cap,hv⟩
   have hlast:=h.2 L'.length ((bx,ox),(bY,oY)) (x,y) (by rw [List.getElem?_append_right (by omega),hlen];simp) (by rw [List.getElem?_append_right (Nat.le_refl _)];simp)
   obtain ⟨⟨f,hf⟩,f',hf'⟩:=hlast
   have hX':PrLs w X' L':=by
    refine ⟨hlen,fun i a q ha hq=>?_⟩
    have hi:=(List.getElem?_eq_some_iff.1 ha).1
    exact h.2 i a q (by rw [List.getElem?_append_left hi];exact ha) (by rw [List.getElem?_append_left (by omega)];exact hq)
   have hcap:L'.length + 1≤cap:=by
    rcases ho.2 with ⟨h0,_⟩ | ⟨g',cap',cur,hv,_,_,hn,_⟩
    ·cases h0
    ·cases hv;exact hn
   refine ⟨L',x,y,X',bx,ox,bY,oY,f,f',g,cap,rfl,rfl,hX',hf,hf',?_,?_,?_,hcap⟩
   ·rw [prv_snoc] at ho
    exact ownsRow_pop (by rw [prv_length,hlen]) ho
   ·rw [ho.cellAt _ (by omega),prv_snoc,List.getElem?_append_right (by rw [prv_length,hlen];exact Nat.le_refl _),prv_length,hlen,Nat.sub_self];rfl
   ·rw [ho.cellAt _ (by omega),prv_snoc,List.getElem?_append_right (by rw [prv_length,hlen];omega),prv_length,hlen,Nat.add_sub_cancel_left];rfl
end Go.Proofs.YtbbfcbodhmeanaaGreatDoor



namespace Go.Proofs.YtbbfcbodhmeanaaGreatDoor
open Go.RowKit
theorem bin_of {w:World} {p:Option Addr} {l:List UInt8} (h:BRow w p l):Lib.BytesIn w p l.length (l.map fun c=>((c.toNat:Nat):Int)):=by
 cases p with
 | none =>
  have h0:l = []:=by
   cases hb:l with
   | nil=>rfl
   | cons a t=>obtain ⟨b,o,e,_⟩:=h (by rw [hb];simp);cases e
  subst h0
  exact Lib.BytesIn.nil _ _ _
 | some a =>
  refine Lib.BytesIn.of_cells fun i hi=>?_
  obtain ⟨b,o,e,hc⟩:=h (fun h=>by rw [h] at hi;simp at hi)
  obtain rfl:=Option.some.inj e
  rw [Addr.add_lit,hc i hi]
  simp [List.getD_eq_getElem?_getD,List.getElem?_eq_getElem hi]
theorem bytes_same (l:List UInt8):Lib.bytesOf (l.map fun c=>((c.toNat:Nat):Int)) = l:=by
 unfold Lib.bytesOf
 rw [List.map_map]
 have:((fun n:Int=>UInt8.ofNat n.toNat) ∘ fun c:UInt8=>((c.toNat:Nat):Int)) = id:=by funext c;simp
 rw [this,List.map_id]
theorem beq_any (p1 p2:Option Addr) (l1 l2:List UInt8) (n m c d:Nat) (e1:n = l1.length) (e2:m = l2.length) (w:World) (h1:BRow w p1 l1) (h2:BRow w p2 l2) :
  Calls Tryz.prog 127 #[.slice p1 n c,.slice p2 m d] w fun e w'=>e = .returned (.bool (decide (l1 = l2)))∧w' = w:=by
 subst e1 e2
 refine (Tryz.bytes_Equal_all p1 p2 _ c _ d _ _ w (by simp) (by simp) (bin_of h1) (bin_of h2)).mono ?_
 rintro e w' ⟨rfl,rfl⟩
 refine ⟨ret_bool ?_,rfl⟩
 rw [bytes_same,bytes_same]
 by_cases h:l1 = l2 <;> simp [h]
def sameA (p q:PT):Bool:=decide (p.ty.data.toList = q.ty.data.toList) && decide (p.cs.data.toList = q.cs.data.toList) && decide (p.id.data.toList = q.id.data.toList) && decide (p.loc.data.toList = q.loc.data.toList) && decide (p.how = q.how) && decide (p.body = q.body)
theorem ba_ext {a b:ByteArray} (h:a.data.toList = b.data.toList):a = b:=ByteArray.ext (Array.toList_inj.1 h)
theorem sameA_iff (p q:PT):sameA p q = true ↔ p.alone = q.alone:=by
 unfold sameA
 simp only [Bool.and_eq_true,decide_eq_true_eq]
 constructor
 ·rintro ⟨⟨⟨⟨⟨h1,h2⟩,h3⟩,h4⟩,h5⟩,h6⟩
  obtain ⟨a1,a2,a3,a4,a5,a6,a7⟩:=p
  obtain ⟨b1,b2,b3,b4,b5,b6,b7⟩:=q
  simp only at h1 h2 h3 h4 h5 h6
  rw [ba_ext h1,ba_ext h2,ba_ext h3,ba_ext h4,h5,h6]
  rfl
 ·intro h
  obtain ⟨a1,a2,a3,a4,a5,a6,a7⟩:=p
  obtain ⟨b1,b2,b3,b4,b5,b6,b7⟩:=q
  simp only [PT.alone,PT.mk.injEq] at h
  obtain ⟨rfl,rfl,rfl,rfl,rfl,rfl,_⟩:=h
  simp
theorem str_beq (a b:ByteArray):(a.toList == b.toList) = decide (a.data.toList = b.data.toList):=by
 rw [ByteArray.toList_eq,ByteArray.toList_eq,Bool.eq_iff_iff];simp
end Go.Proofs.YtbbfcbodhmeanaaGreatDoor



namespace Go.Proofs.YtbbfcbodhmeanaaGreatDoor
open Go.RowKit
set_option maxHeartbeats 8000000 in
set_option maxRecDepth 100000 in
theorem samea_any (b o b2 o2:Nat) (p q:PT) (pb qb:Option Addr) (cb:Nat) (pk qk:Option Addr) (ck cb2 ck2:Nat) (w:World) (hP:PCells w b o p pb cb pk ck) (hQ:PCells w b2 o2 q qb cb2 qk ck2) (hp:BRow w pb p.body) (hq:BRow w qb q.body) :
  Calls Tryz.prog 71 #[.pointer (some ⟨b,o,none⟩),.pointer (some ⟨b2,o2,none⟩)] w fun e w'=>e = .returned (.bool (sameA p q))∧∃ k,w' = w.drewN k:=by
 obtain ⟨c0,c1,c2,c3,c4,c5,c6⟩:=hP
 obtain ⟨d0,d1,d2,d3,d4,d5,d6⟩:=hQ
 have CB:Hid (∀ k,Calls Tryz.prog 127 #[.slice pb p.body.length cb,.slice qb q.body.length cb2] (w.drewN k) fun e w'=>e = .returned (.bool (decide (p.body = q.body)))∧w' = w.drewN k):=fun k=>beq_any pb qb _ _ _ _ cb cb2 rfl rfl _ (hp.under (below_drewN' (Below.refl _ _) k)) (hq.under (below_drewN' (Below.refl _ _) k))
 have e0:=str_beq p.ty q.ty
 have e1:=str_beq p.cs q.cs
 have e2:=str_beq p.id q.id
 have e3:=str_beq p.loc q.loc
 have HS:Hid (sameA p q = (decide (p.ty.data.toList = q.ty.data.toList) && decide (p.cs.data.toList = q.cs.data.toList) && decide (p.id.data.toList = q.id.data.toList) && decide (p.loc.data.toList = q.loc.data.toList) && decide (p.how = q.how) && decide (p.body = q.body))):=rfl
 clear hp hq c6 d6
 generalize decide (p.body = q.body) = B at *
 generalize p.body.length = nb at *
 generalize q.body.length = nq at *
 generalize decide (p.ty.data.toList = q.ty.data.toList) = T0 at *
 generalize decide (p.cs.data.toList = q.cs.data.toList) = T1 at *
 generalize decide (p.id.data.toList = q.id.data.toList) = T2 at *
 generalize decide (p.loc.data.toList = q.loc.data.toList) = T3 at *
 have e4:(p.how == q.how) = decide (p.how = q.how):=by by_cases h:p.how = q.how <;> simp [h]
 generalize decide (p.how = q.how) = T4 at *
 generalize sameA p q = S at *
 go_enter Tryz.func71,Tryz.ntmps71
 cases T0
 ·have HN:Hid (S = false):=HS.out
  clear HS
  go_wp2_with fail
  simp only [List.append_eq,List.cons_append,List.nil_append]
  go_quiet (fail)
  go_wp2_with fail
  go_ret
  exact ⟨by rw [HN.out];rfl,_,rfl⟩
 cases T1
 ·have HN:Hid (S = false):=HS.out
  clear HS
  go_wp2_with fail
  simp only [List.append_eq,List.cons_append,List.nil_append]
  go_quiet (fail)
  go_wp2_with fail
  go_ret
  exact ⟨by rw [HN.out];rfl,_,rfl⟩
 cases T2
 ·have HN:Hid (S = false):=HS.out
  clear HS
  go_wp2_with fail
  simp only [List.append_eq,List.cons_append,List.nil_append]
  go_quiet (fail)
  go_wp2_with fail
  go_ret
  exact ⟨by rw [HN.out];rfl,_,rfl⟩
 cases T3
 ·have HN:Hid (S = false):=HS.out
  clear HS
  go_wp2_with fail
  simp only [List.append_eq,List.cons_append,List.nil_append]
  go_quiet (fail)
  go_wp2_with fail
  go_ret
  exact ⟨by rw [HN.out];rfl,_,rfl⟩
 cases T4
 ·have HN:Hid (S = false):=HS.out
  clear HS
  go_wp2_with fail
  simp only [List.append_eq,List.cons_append,List.nil_append]
  go_quiet (fail)
  go_wp2_with fail
  go_ret
  exact ⟨by rw [HN.out];rfl,_,rfl⟩
 have HN:Hid (S = B):=by unfold Hid;rw [HS.out];rfl
 clear HS
 go_wp2_with fail
 simp only [List.append_eq,List.cons_append,List.nil_append]
 go_quiet (first | (go_at_call 127;exact Calls.quiet_of_same (CB.out _)) | fail)
 go_wp2_with fail
 go_ret
 exact ⟨by rw [HN.out];rfl,_,rfl⟩
end Go.Proofs.YtbbfcbodhmeanaaGreatDoor



namespace Go.Proofs.YtbbfcbodhmeanaaGreatDoor
open Go.RowKit
theorem drew_twice (w:World) (a b:Nat):(w.drewN a).drewN b = w.drewN (a + b):=by
 simp
end Go.Proofs.YtbbfcbodhmeanaaGreatDoor



namespace Go.Proofs.YtbbfcbodhmeanaaGreatDoor
open Go.RowKit
theorem eq_of_getD {xs ys:List Int} {n:Nat} (hx:xs.length = n) (hy:ys.length = n) (h:∀ j,j < n→xs.getD j 0 = ys.getD j 0):xs = ys:=by
 apply List.ext_getElem (by omega)
 intro i h1 h2
 have:=h i (by omega)
 simpa [List.getD_eq_getElem?_getD,List.getElem?_eq_getElem h1,List.getElem?_eq_getElem h2] using this
end Go.Proofs.YtbbfcbodhmeanaaGreatDoor



namespace Go.Proofs.YtbbfcbodhmeanaaGreatDoor
open Go.RowKit
set_option maxHeartbeats 1000000 in
theorem equalBytes (p1 p2:Option Addr) (n m c d:Nat) (xs ys:List Int) (w:World) (hn:n≤maxLen) (hm:m≤maxLen) (h1:Row .u8 w p1 n xs) (h2:Row .u8 w p2 m ys) :
  Calls Tryz.prog 34 #[.slice p1 n c,.slice p2 m d] w fun e w'=>e = .returned (.bool (decide (xs = ys)))∧∃ q,w' = w.drewN q:=by
 unfold maxLen at hn hm
 obtain ⟨hx,r1⟩:=h1
 obtain ⟨hy,r2⟩:=h2
 by_cases hnm:n = m
 ·subst hnm
  by_cases h0:n = 0
  ·subst h0
   have exy:xs = ys:=by rw [List.eq_nil_of_length_eq_zero hx,List.eq_nil_of_length_eq_zero hy]
   have hfin:decide (xs = ys) = true:=by simp [exy]
   rw [hfin]
   clear r1 r2 exy hfin hx hy
   go_enter Tryz.func34,Tryz.ntmps34
   go_wp2
   refine wp_loop_rounds 1 ?_
   rw [rounds_succ]
   go_wp2
   go_ret
   exact ⟨rfl,0,rfl⟩
  ·obtain ⟨b1,o1,rfl,k1⟩:=r1 h0
   obtain ⟨b2,o2,rfl,k2⟩:=r2 h0
   clear r1 r2
   go_enter Tryz.func34,Tryz.ntmps34
   go_wp2
   go_loopg [13] n (fun g s13 wr=>∃ k q:Nat,k≤n∧n - k≤g∧s13 = .int .i64 k∧wr = w.drewN q∧∀ j,j < k→xs.getD j 0 = ys.getD j 0)
   case atStart=>exact ⟨0,0,Nat.zero_le _,by omega,rfl,rfl,fun j hj=>absurd hj (Nat.not_lt_zero _)⟩
   case round =>
    obtain ⟨k,q,hk,hg,rfl,rfl,heq⟩:=hrel
    by_cases hlt:k < n
    ·have g1:w.cell? ⟨b1,o1 + k,none⟩ = some (.int .u8 (xs.getD k 0)):=k1 k hlt
     have g2:w.cell? ⟨b2,o2 + k,none⟩ = some (.int .u8 (ys.getD k 0)):=k2 k hlt
     have A:Hid (∀ j,j < k→xs.getD j 0 = ys.getD j 0):=heq
     clear heq k1 k2
     generalize hxk:xs.getD k 0 = x at g1
     generalize hyk:ys.getD k 0 = y at g2
     have B:Hid (xs.getD k 0 = x∧ys.getD k 0 = y):=⟨hxk,hyk⟩
     clear hxk hyk
     by_cases hxy:x = y
     ·subst hxy
      go_wp2_with fail
      go_quiet (fail)
      go_wp2
      go_roundg (n - (k + 1))
      case measure=>omega
      case rel =>
       refine ⟨k + 1,q + nq,by omega,by omega,by go_num,rfl,fun j hj=>?_⟩
       by_cases e:j = k
       ·subst e
        rw [B.out.1,B.out.2]
       ·exact A.out j (by omega)
     ·go_wp2_with fail
      go_quiet (fail)
      go_wp2
      go_ret
      refine ⟨ret_bool ?_,q + nq,World.drewN_drewN _ _ _⟩
      symm
      rw [decide_eq_false_iff_not]
      intro e
      apply hxy
      rw [← B.out.1,← B.out.2,e]
    ·have:k = n:=by omega
     subst this
     have hfin:Hid (decide (xs = ys) = true):=by simp [Hid,eq_of_getD hx hy heq]
     clear k1 k2 heq
     go_wp2
     go_ret
     exact ⟨ret_bool hfin.out.symm,q,rfl⟩
 ·have hnm':¬ (n:Int) = (m:Int):=by omega
  have hfin:decide (xs = ys) = false:=by
   rw [decide_eq_false_iff_not]
   intro e
   apply hnm
   rw [← hx,← hy,e]
  rw [hfin]
  clear r1 r2 hfin
  go_enter Tryz.func34,Tryz.ntmps34
  go_wp2
  go_ret
  exact ⟨rfl,0,rfl⟩
end Go.Proofs.YtbbfcbodhmeanaaGreatDoor



namespace Go.Proofs.YtbbfcbodhmeanaaGreatDoor
open Go.RowKit
theorem BRow.nums {w:World} {p:Option Addr} {l:List UInt8} (h:BRow w p l):Row .u8 w p l.length (l.map fun c=>((c.toNat:Nat):Int)):=by
 refine ⟨by simp,fun h0=>?_⟩
 obtain ⟨b,o,e,hc⟩:=h (fun e=>h0 (by rw [e];rfl))
 refine ⟨b,o,e,fun i hi=>?_⟩
 rw [hc i hi]
 simp [List.getD_eq_getElem?_getD,List.getElem?_eq_getElem hi]
theorem pt_eq (p q:PT):p = q ↔ p.alone = q.alone∧p.kids = q.kids:=by
 constructor
 ·intro h;subst h;exact ⟨rfl,rfl⟩
 ·rintro ⟨h1,h2⟩
  obtain ⟨a1,a2,a3,a4,a5,a6,a7⟩:=p
  obtain ⟨b1,b2,b3,b4,b5,b6,b7⟩:=q
  simp only [PT.alone,PT.mk.injEq] at h1
  obtain ⟨rfl,rfl,rfl,rfl,rfl,rfl,_⟩:=h1
  simp only at h2
  subst h2
  rfl
def SamePost (p q:PT) (w:World) (e:Ending) (w':World):Prop:=∃ b:Bool,e = .returned (.bool b)∧(b = true ↔ p = q)∧Below w.heap.size w w'
end Go.Proofs.YtbbfcbodhmeanaaGreatDoor



namespace Go.Proofs.YtbbfcbodhmeanaaGreatDoor
open Go.RowKit
theorem info_pair:(Tryz.prog.info? 109).map (fun i=>(i.zero,i.size,i.bytes)) = some (some (.agg #[.pointer none,.pointer none]),2,16):=by kernel_rfl
theorem pairs_last {p q x y:PT} {L:List (PT × PT)} (h:p = q ↔ ∀ z ∈ L ++ [(x,y)],z.1 = z.2) (hk:x.kids.length = y.kids.length) (ha:x.alone = y.alone):p = q ↔ ∀ z ∈ L ++ x.kids.zip y.kids,z.1 = z.2:=by
 rw [h]
 simp only [List.forall_mem_append,List.mem_singleton,forall_eq]
 rw [pt_eq x y,zip_same _ _ hk]
 exact ⟨fun h=>⟨h.1,h.2.2⟩,fun h=>⟨h.1,ha,h.2⟩⟩
theorem pairs_not {p q x y:PT} {L:List (PT × PT)} (h:p = q ↔ ∀ z ∈ L ++ [(x,y)],z.1 = z.2) (hn:¬ x = y):¬ p = q:=fun e=>hn (h.1 e (x,y) (by simp))
theorem zip_cnt {x y:PT} (h:x.kids.length = y.kids.length):cnts (x.kids.zip y.kids) + 1 = cnt x:=by rw [cnts_zip _ _ h,cnt_eq];omega
def Left (w2:World) (p q:PT) (N:Nat) (wr:World) (v:Value) (n:Nat) (g:Nat):Prop :=
 ∃ (X:List PX2) (L:List (PT × PT)),n = L.length∧wr.ownsRow w2.heap.size 109 2 v n (prv X)∧PrLs w2 X L∧cnts L≤g∧g≤N∧(p = q ↔ ∀ z ∈ L,z.1 = z.2)
theorem cell_ptrs (w:World) (a b:Option Addr) (t:TypeId):∀ j u,[Value.pointer a,.pointer b][j]? = some u→(w.alloc (.cells #[.pointer a,.pointer b] t)).cell? ((⟨w.heap.size,0,none⟩:Addr).add j) = some u:=by
 intro j u h
 match j,h with
 | 0,h=>simp at h;subst h;simp [Addr.add]
 | 1,h=>simp at h;subst h;simp [Addr.add]
 | j + 2,h=>simp at h
set_option maxHeartbeats 4000000 in
set_option maxRecDepth 100000 in
theorem same_any (p q:PT) (pb qb:Option Addr) (cb:Nat) (pk qk:Option Addr) (ck cb2 ck2 F F2:Nat) (w:World) (hH:PHeld w F p pb cb pk ck) (hH2:PHeld w F2 q qb cb2 qk ck2) (hN:cnt p≤8000000000000) :
  Calls Tryz.prog 27 #[.agg #[.string p.ty,.string p.cs,.string p.id,.string p.loc,.int .i64 p.how,.slice pb p.body.length cb,.slice pk p.kids.length ck],.agg #[.string q.ty,.string q.cs,.string q.id,.string q.loc,.int .i64 q.how,.slice qb q.body.length cb2,.slice qk q.kids.length ck2]] w
   fun e w'=>SamePost p q w e w':=by
 obtain ⟨i0,hi,hz0,hz1,hz2⟩:=info_parts info_pair
 have hA:=boxed hH 25 _ rfl
 have hb1:Below w.heap.size w (w.alloc (.cells #[Value.string p.ty,.string p.cs,.string p.id,.string p.loc,.int .i64 p.how,.slice pb p.body.length cb,.slice pk p.kids.length ck] 25)):=(Below.refl _ _).alloc (Nat.le_refl _) _
 have hB:=boxed (hH2.below hb1) 25 _ rfl
 have hA2:=hA.below ((Below.refl _ _).alloc (Nat.le_refl _) (.cells #[Value.string q.ty,.string q.cs,.string q.id,.string q.loc,.int .i64 q.how,.slice qb q.body.length cb2,.slice qk q.kids.length ck2] 25))
 have hb2:=hb1.alloc hb1.size (.cells #[Value.string q.ty,.string q.cs,.string q.id,.string q.loc,.int .i64 q.how,.slice qb q.body.length cb2,.slice qk q.kids.length ck2] 25)
 rw [World.size_alloc] at hB
 obtain ⟨w2,hw2⟩:∃ w2,(w.alloc (.cells #[Value.string p.ty,.string p.cs,.string p.id,.string p.loc,.int .i64 p.how,.slice pb p.body.length cb,.slice pk p.kids.length ck] 25)).alloc (.cells #[Value.string q.ty,.string q.cs,.string q.id,.string q.loc,.int .i64 q.how,.slice qb q.body.length cb2,.slice qk q.kids.length ck2] 25) = w2:=⟨_,rfl⟩
 rw [hw2] at hA2 hB hb2
 have hsz2:w2.heap.size = w.heap.size + 2:=by rw [← hw2];simp
 have own3:(w2.alloc (.cells #[Value.pointer (some ⟨w.heap.size,0,none⟩),.pointer (some ⟨w.heap.size + 1,0,none⟩)] 109)).ownsRow w2.heap.size 109 2 (.slice (some ⟨w2.heap.size,0,none⟩) 1 1) 1 (prv [((w.heap.size,0),(w.heap.size + 1,0))]):=World.ownsRow_lit w2 #[Value.pointer (some ⟨w.heap.size,0,none⟩),.pointer (some ⟨w.heap.size + 1,0,none⟩)] 1 (Nat.le_refl _) (by decide) rfl
 have hls3:PrLs w2 [((w.heap.size,0),(w.heap.size + 1,0))] [(p,q)]:=(PrLs.nil w2).snoc hA2 hB
 have hb23:Below w2.heap.size w2 (w2.alloc (.cells #[Value.pointer (some ⟨w.heap.size,0,none⟩),.pointer (some ⟨w.heap.size + 1,0,none⟩)] 109)):=(Below.refl _ _).alloc (Nat.le_refl _) _
 obtain ⟨w3,hw3⟩:∃ w3,w2.alloc (.cells #[Value.pointer (some ⟨w.heap.size,0,none⟩),.pointer (some ⟨w.heap.size + 1,0,none⟩)] 109) = w3:=⟨_,rfl⟩
 rw [hw3] at own3 hb23
 have HL:Hid (Left w2 p q (cnt p) w3 (.slice (some ⟨w2.heap.size,0,none⟩) 1 1) 1 (cnt p)):=⟨_,_,rfl,own3,hls3,by simp [cnts],Nat.le_refl _,by simp⟩
 rw [hsz2] at HL
 clear hA hB hA2 hH hH2 own3 hls3 hb1
 have hb2':Hid (Below w.heap.size w w2):=hb2
 generalize hCN:cnt p = CN at *
 have HCN:Hid (CN≤8000000000000):=hN
 clear hCN hN
 go_enter Tryz.func27,Tryz.ntmps27
 generalize p.kids.length = nk at *
 generalize q.kids.length = nk2 at *
 generalize p.body.length = nb at *
 generalize q.body.length = nb2 at *
 go_wp2_with fail
 go_loopg [5] CN (fun g s5 wr=>∃ (a:Option Addr) (n c:Nat),s5 = .slice a n c∧Below w2.heap.size w2 wr∧Hid (Left w2 p q CN wr (.slice a n c) n g))
 case atStart=>exact ⟨_,1,1,rfl,hb23,HL⟩
 case round =>
  obtain ⟨a,n,c,rfl,hbr,HLr⟩:=hrel
  clear HL hw3 hw2 hb23
  obtain ⟨X,L,hn,hown,hls,hcl,hgl,hpq⟩:=HLr.out
  clear HLr
  have hsr:=hbr.size
  cases hLe:L with
  | nil =>
   subst hLe
   obtain rfl:n = 0:=hn
   have HN:Hid (p = q):=hpq.2 (fun z hz=>by cases hz)
   clear hown hls hcl hgl hpq hi hz0 hz1 hz2
   go_wp2_with fail
   go_ret
   exact ⟨true,rfl,⟨fun _=>HN.out,fun _=>rfl⟩,hb2'.out.trans (hbr.mono hb2'.out.size)⟩
  | cons z0 L0 =>
   rw [hn] at hown
   obtain ⟨L',x,y,X',bx,ox,bY,oY,f,f',g,cap,hL,hv,hX',hPx,hPy,hown',k0,k1,hcap⟩:=hls.last (by rw [hLe];exact List.cons_ne_nil _ _) hown
   obtain ⟨rfl,rfl,rfl⟩:a = some ⟨g,0,none⟩∧n = L'.length + 1∧c = cap:=by
    rw [← hn] at hv
    cases hv
    exact ⟨rfl,rfl,rfl⟩
   rw [hL] at hcl hpq
   rw [cnts_snoc] at hcl
   simp only at hcl
   clear hown hls hLe hL hn
   have hxp:=cnt_pos x
   have hlL:=cnts_length L'
   have HPQ:Hid (p = q ↔ ∀ z ∈ L' ++ [(x,y)],z.1 = z.2):=hpq
   have HCL:Hid (cnts L' + cnt x≤gk):=hcl
   have HOW:Hid (wr.ownsRow w2.heap.size 109 2 (.slice (some ⟨g,0,none⟩) L'.length c) L'.length (prv X')):=hown'
   have HX:Hid (PrLs w2 X' L'):=hX'
   obtain ⟨g',rfl⟩:∃ g',gk = g' + 1:=⟨gk - 1,by omega⟩
   obtain ⟨m,hm⟩:∃ m,L'.length = m:=⟨_,rfl⟩
   have HM:Hid (L'.length = m):=hm
   rw [hm] at k0 k1 hcap hlL HOW
   have hmb:m + 1≤8000000000000:=by have:=HCN.out;omega
   have HGL:Hid (g' + 1≤CN):=hgl
   simp only [hm]
   clear hm hpq hcl hown' hX' hlL hxp hgl
   have CS:Hid (∀ w',Below wr.heap.size wr w'→Calls Tryz.prog 71 #[.pointer (some ⟨bx,ox,none⟩),.pointer (some ⟨bY,oY,none⟩)] w' fun e w''=>e = .returned (.bool (sameA x y))∧∃ m,w'' = w'.drewN m):=fun w' hb=>by
    have hb':Below w2.heap.size w2 w':=hbr.trans (hb.mono hsr)
    obtain ⟨a1,a2,a3,a4,hCa,hHa⟩:=hPx.below hb'
    obtain ⟨b1,b2,b3,b4,hCb,hHb⟩:=hPy.below hb'
    exact samea_any bx ox bY oY x y a1 b1 a2 a3 b3 a4 b2 b4 w' hCa hCb hHa.2.2.1 hHb.2.2.1
   obtain ⟨x1,x2,x3,x4,hCx,hHx⟩:=hPx
   obtain ⟨y1,y2,y3,y4,hCy,hHy⟩:=hPy
   have HX6:Hid (∀ w',Below w2.heap.size w2 w'→w'.cell? ⟨bx,ox + 6,none⟩ = some (.slice x3 x.kids.length x4)∧w'.cell? ⟨bY,oY + 6,none⟩ = some (.slice y3 y.kids.length y4)):=fun w' hb =>
    ⟨(hCx.below hb).2.2.2.2.2.2,(hCy.below hb).2.2.2.2.2.2⟩
   have HKX:Hid (x.kids ≠ []→∃ F' b o,x3 = some ⟨b,o,none⟩∧∀ i,i < x.kids.length→PAt w2 F' b (o + i * 7) (x.kids.getD i pt0)):=fun hne=>by
    have hk:KAt w2 f x3 x.kids:=hHx.2.2.2.2
    cases f with
    | zero=>exact absurd hk hne
    | succ F' =>
     obtain ⟨b,o,e1,e2⟩:=hk.each hne
     exact ⟨F',b,o,e1,e2⟩
   have HKY:Hid (y.kids ≠ []→∃ F' b o,y3 = some ⟨b,o,none⟩∧∀ i,i < y.kids.length→PAt w2 F' b (o + i * 7) (y.kids.getD i pt0)):=fun hne=>by
    have hk:KAt w2 f' y3 y.kids:=hHy.2.2.2.2
    cases f' with
    | zero=>exact absurd hk hne
    | succ F' =>
     obtain ⟨b,o,e1,e2⟩:=hk.each hne
     exact ⟨F',b,o,e1,e2⟩
   have hkx:x.kids.length≤9223372036854775807:=by have:=hHx.1.2.2.2.2.2.2.2;unfold maxLen at this;exact this
   have hky:y.kids.length≤9223372036854775807:=by have:=hHy.1.2.2.2.2.2.2.2;unfold maxLen at this;exact this
   have HSA:Hid (sameA x y = true ↔ x.alone = y.alone):=sameA_iff x y
   clear hCx hHx hCy hHy
   have hbx6:=(HX6.out wr hbr).1
   have hby6:=(HX6.out wr hbr).2
   have hmz:((m + 1:Nat):Int) - 1 = (m:Int):=by omega
   have hmw:IntKind.i64.wrap (((m + 1:Nat):Int) - 1) = (m:Int):=by rw [IntKind.wrap_i64];omega
   obtain ⟨nx,hnx⟩:∃ nx,x.kids.length = nx:=⟨_,rfl⟩
   obtain ⟨ny,hny⟩:∃ ny,y.kids.length = ny:=⟨_,rfl⟩
   have HNX:Hid (x.kids.length = nx∧y.kids.length = ny):=⟨hnx,hny⟩
   rw [hnx] at hkx hbx6 HKX
   rw [hny] at hky hby6 HKY
   rw [hnx,hny] at HX6
   clear hnx hny
   generalize sameA x y = S at *
   go_wp2_with fail
   go_quiet (fail)
   go_wp2_with fail
   have hb4:Below wr.heap.size wr (wr.drewN nq):=below_drewN' (Below.refl _ _) nq
   have CS2:Hid (∀ n,Calls Tryz.prog 71 #[.pointer (some ⟨bx,ox,none⟩),.pointer (some ⟨bY,oY,none⟩)] ((wr.drewN nq).drewN n) fun e w'=>e = .returned (.bool S)∧∃ m,w' = (wr.drewN nq).drewN m):=fun n=>by
    refine (CS.out _ (below_drewN' hb4 n)).mono ?_
    rintro e w' ⟨rfl,k,rfl⟩
    exact ⟨rfl,_,drew_twice _ _ _⟩
   have c64:(wr.drewN nq).cell? ⟨bx,ox + 6,none⟩ = some (.slice x3 nx x4):=hbx6
   have d64:(wr.drewN nq).cell? ⟨bY,oY + 6,none⟩ = some (.slice y3 ny y4):=hby6
   have OW4:Hid ((wr.drewN nq).ownsRow w2.heap.size 109 2 (.slice (some ⟨g,0,none⟩) m c) m (prv X')):=HOW.out
   have hbr4:Below w2.heap.size w2 (wr.drewN nq):=below_drewN' hbr nq
   clear CS k0 k1 hbx6 hby6 HOW hb4 hbr hsr hmz hmw hcap hb2
   generalize wr.drewN nq = w4 at *
   cases S
   ·have HN:Hid (¬ p = q):=pairs_not HPQ.out (fun e=>by
     have:=HSA.out.2 (by rw [e])
     cases this)
    clear HPQ HSA HKX HKY HX6 OW4 hi hz0 hz1 hz2
    go_quiet (first | (go_at_call 71;exact CS2.out _) | fail)
    go_wp2_with fail
    go_ret
    exact ⟨false,rfl,⟨fun h=>(by cases h),fun h=>absurd h HN.out⟩,hb2'.out.trans ((below_drewN' hbr4 _).mono hb2'.out.size)⟩
   ·by_cases hxy:nx = ny
    ·subst hxy
     have HQ:Hid (p = q ↔ ∀ z ∈ L' ++ x.kids.zip y.kids,z.1 = z.2):=pairs_last HPQ.out (by rw [HNX.out.1,HNX.out.2]) (HSA.out.1 rfl)
     have hnb:((nx:Int) != (nx:Int)) = false:=by simp
     clear HPQ HSA
     go_quiet (first | (go_at_call 71;exact CS2.out _) | fail)
     go_wp2_with fail
     have OW5:Hid ((w4.drewN nq).ownsRow w2.heap.size 109 2 (.slice (some ⟨g,0,none⟩) m c) m (prv X')):=OW4.out
     have hbr5:Below w2.heap.size w2 (w4.drewN nq):=below_drewN' hbr4 nq
     have HG:Hid (∀ k,k≤nx→m + k≤g'∧g'≤8000000000000):=fun k hk=>by
      have h1:=zip_cnt (x:=x) (y:=y) (by rw [HNX.out.1,HNX.out.2])
      have h2:=cnts_length L'
      have h3:=cnts_length (x.kids.zip y.kids)
      rw [List.length_zip,HNX.out.1,HNX.out.2,Nat.min_self] at h3
      have h4:=HCL.out
      have h5:=HM.out
      have h6:=HGL.out
      have h7:=HCN.out
      omega
     clear OW4 hbr4 c64 d64 CS2
     generalize w4.drewN nq = w5 at *
     go_loopw [5,53] (fun sv iv wy=>∃ (k:Nat) (X:List PX2) (a:Option Addr) (n c:Nat),k≤nx∧iv = .int .i64 k∧sv = .slice a n c∧Below w2.heap.size w2 wy∧Hid (n = m + k)∧Hid (wy.ownsRow w2.heap.size 109 2 (.slice a n c) n (prv X))∧Hid (PrLs w2 X (L' ++ (x.kids.zip y.kids).take k))) (fun _ iv _=>nx - (intOf iv).toNat)
     case atStart=>exact ⟨0,X',some ⟨g,0,none⟩,m,c,Nat.zero_le _,rfl,rfl,hbr5,rfl,OW5,by unfold Hid;rw [List.take_zero,List.append_nil];exact HX.out⟩
     case round =>
      obtain ⟨k,X9,a9,n9,c9,hk,rfl,rfl,hby,en9,HO9,HX9⟩:=hrel
      clear OW5 HX hbr5
      have hsy:=hby.size
      by_cases hlt:k < nx
      ·have hlz:(k:Int) < (nx:Int):=by omega
       have hneX:x.kids ≠ []:=fun e=>by have:=HNX.out.1;rw [e] at this;simp at this;omega
       have hneY:y.kids ≠ []:=fun e=>by have:=HNX.out.2;rw [e] at this;simp at this;omega
       obtain ⟨F',bp,op,rfl,hPp⟩:=HKX.out hneX
       obtain ⟨F'',bq,oq,rfl,hPq⟩:=HKY.out hneY
       have HP1:Hid (PrLs w2 (X9 ++ [((bp,op + k * 7),(bq,oq + k * 7))]) (L' ++ (x.kids.zip y.kids).take (k + 1))):=by
        unfold Hid
        rw [zip_snoc _ _ k (by rw [HNX.out.1];exact hlt) (by rw [HNX.out.2];exact hlt),← List.append_assoc]
        exact HX9.out.snoc (hPp k hlt) (hPq k hlt)
       have c6:∀ w',Below w2.heap.size w2 w'→w'.cell? ⟨bx,ox + 6,none⟩ = some (.slice (some ⟨bp,op,none⟩) nx x4):=fun w' hb=>(HX6.out w' hb).1
       have d6:∀ w',Below w2.heap.size w2 w'→w'.cell? ⟨bY,oY + 6,none⟩ = some (.slice (some ⟨bq,oq,none⟩) nx y4):=fun w' hb=>(HX6.out w' hb).2
       have hn9:n9 + 1≤8000000000000:=by have:=HG.out (k + 1) (by omega);have:=en9.out;omega
       have hO9:=HO9.out
       clear hPp hPq HX9 HO9 HKX HKY hsz2
       go_wp2_with fail
       go_region_held3 (fun w'=>Below w2.heap.size w2 w') (first | assumption | exact hby.drew | exact (hby.alloc hsy _).drew) (first
        | (refine step_append_own rfl (.tmp 56) (.tmp 70) 110 rfl w2.heap.size 109 i0 (.agg #[.pointer none,.pointer none]) 2 16 Tryz.underlying110 hi hz0 hz1 hz2 rfl (by decide) (.slice a9 n9 c9) n9 (prv X9) (by simp [Act.eval]) (by first | exact (hO9.alloc _).drew | exact (hO9.drew).alloc _ | exact hO9.alloc _) ⟨wr.heap.size,0,none⟩ 1 1 [.pointer (some ⟨bp,op + k * 7,none⟩),.pointer (some ⟨bq,oq + k * 7,none⟩)] (by simp [Act.eval]) rfl (cell_ptrs _ _ _ _) (by intro u hu;simp at hu;rcases hu with rfl | rfl <;> rfl) (by unfold maxLen;omega) (by omega) (by simp;omega) ?_;intro v9 w9 own9 grow9;have hbe9:Below w2.heap.size w2 w9:=((hby.alloc hsy _).drew).grown grow9 (by simp;omega) (fun j hj=>(hO9.lt j hj).1)))
       have R:w9.ownsRow w2.heap.size 109 2 v9 (n9 + 1) (prv (X9 ++ [((bp,op + k * 7),(bq,oq + k * 7))])):=by rw [prv_snoc];exact own9
       obtain ⟨a1,c1,rfl⟩:=owned_slice R
       have HR:Hid (w9.ownsRow w2.heap.size 109 2 (.slice a1 (n9 + 1) c1) (n9 + 1) (prv (X9 ++ [((bp,op + k * 7),(bq,oq + k * 7))]))):=R
       clear own9 grow9 R hO9 c6 d6
       go_wp2_with fail
       go_roundw
       case rel=>exact ⟨k + 1,_,a1,n9 + 1,c1,by omega,by go_num,rfl,hbe9,by unfold Hid;have:=en9.out;omega,HR,HP1⟩
       case measure=>simp [intOf];omega
      ·have hlz:¬ ((k:Int) < (nx:Int)):=by omega
       obtain rfl:k = nx:=by omega
       have HL2:Hid (Left w2 p q CN wr (.slice a9 n9 c9) n9 g'):=by
        refine ⟨X9,L' ++ x.kids.zip y.kids,?_,HO9.out,?_,?_,?_,HQ.out⟩
        ·rw [List.length_append,List.length_zip,HNX.out.1,HNX.out.2,Nat.min_self,HM.out,en9.out]
        ·have h1:=HX9.out
         rw [List.take_of_length_le (by rw [List.length_zip,HNX.out.1,HNX.out.2,Nat.min_self];exact Nat.le_refl _)] at h1
         exact h1
        ·have h1:=zip_cnt (x:=x) (y:=y) (by rw [HNX.out.1,HNX.out.2])
         have h4:=HCL.out
         rw [cnts_append]
         omega
        ·have h6:=HGL.out
         omega
       clear HO9 HX9 HQ HKX HKY HX6 HG
       go_wp2_with fail
       go_roundg g'
       case measure=>omega
       case rel=>exact ⟨a9,n9,c9,rfl,hby,HL2⟩
    ·have hnb:((nx:Int) != (ny:Int)) = true:=by simp;omega
     have HN:Hid (¬ p = q):=pairs_not HPQ.out (fun e=>hxy (by rw [← HNX.out.1,← HNX.out.2,e]))
     clear HPQ HSA HKX HKY HX6 OW4 hi hz0 hz1 hz2
     go_quiet (first | (go_at_call 71;exact CS2.out _) | fail)
     go_wp2_with fail
     go_ret
     exact ⟨false,rfl,⟨fun h=>(by cases h),fun h=>absurd h HN.out⟩,hb2'.out.trans ((below_drewN' hbr4 _).mono hb2'.out.size)⟩
end Go.Proofs.YtbbfcbodhmeanaaGreatDoor



namespace Go.Proofs.YtbbfcbodhmeanaaGreatDoor
open Go.RowKit
def leadsTo (gs:List GL) (m:Int):Bool:=gs.any fun g=>decide (g.find = m)
end Go.Proofs.YtbbfcbodhmeanaaGreatDoor



namespace Go.Proofs.YtbbfcbodhmeanaaGreatDoor
open Go.RowKit
def nv (l:List NM):List Value:=l.flatMap fun f=>[Value.int .i64 f.1,Value.string f.2]
theorem nv_at (l:List NM) (k:Nat) (h:k < l.length):l.drop k = l.getD k nm0::l.drop (k + 1):=by
 rw [List.drop_eq_getElem_cons h]
 simp [List.getD_eq_getElem?_getD,List.getElem?_eq_getElem h]
def AskAt (w:World) (g:Nat) (gs:List GL):Prop:=∃ ga n c,n≤1000∧G6 w ga n gs∧w.cell? ⟨g,0,none⟩ = some (.slice ga n c)
theorem AskAt.below {w w':World} {g:Nat} {gs:List GL} (h:AskAt w g gs) (hb:Below w.heap.size w w'):AskAt w' g gs:=by
 obtain ⟨ga,n,c,hn,hg,hc⟩:=h
 exact ⟨ga,n,c,hn,hg.below hb,(hb.cell (p:=⟨g,0,none⟩) (World.block_lt_of_cell? w _ hc)).trans hc⟩
def nkept (gs:List GL) (l:List NM):List NM:=l.filter fun f=>!leadsTo gs f.1
end Go.Proofs.YtbbfcbodhmeanaaGreatDoor



namespace Go.Proofs.YtbbfcbodhmeanaaGreatDoor
open Go.RowKit
structure NKept (gs:List GL) (l:List NM) (i j:Nat) (R:List NM):Prop where
 lt:i < j
 le:j≤l.length
 len:R.length = l.length
 ahead:R.take i = nkept gs (l.take j)
 many:i = (nkept gs (l.take j)).length
 behind:R.drop j = l.drop j
theorem NKept.at_ {gs:List GL} {l:List NM} {i j:Nat} {R:List NM} (h:NKept gs l i j R) (hj:j < l.length):R.getD j nm0 = l.getD j nm0:=by
 have:=h.behind
 rw [nv_at R j (by rw [h.len];exact hj),nv_at l j hj] at this
 exact (List.cons.inj this).1
end Go.Proofs.YtbbfcbodhmeanaaGreatDoor



namespace Go.Proofs.YtbbfcbodhmeanaaGreatDoor
open Go.RowKit
end Go.Proofs.YtbbfcbodhmeanaaGreatDoor



namespace Go.Proofs.YtbbfcbodhmeanaaGreatDoor
open Go.RowKit
end Go.Proofs.YtbbfcbodhmeanaaGreatDoor


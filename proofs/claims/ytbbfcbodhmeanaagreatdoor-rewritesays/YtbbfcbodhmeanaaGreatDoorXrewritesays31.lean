
import Derived.Test.YtbbfcbodhmeanaaGreatDoorXrewritesays16
import Derived.Test.YtbbfcbodhmeanaaGreatDoorXrewritesays22
namespace Go.Proofs.YtbbfcbodhmeanaaGreatDoor
open Go.RowKit
def eachL (E:PT→Nat→Nat × PT × Nat):List PT→Nat→Nat × List PT × Nat
 | [],k=>(0,[],k)
 | x::l,k=>if (E x k).1 ≠ 0 then ((E x k).1,[],(E x k).2.2) else ((eachL E l (E x k).2.2).1,(E x k).2.1::(eachL E l (E x k).2.2).2.1,(eachL E l (E x k).2.2).2.2)
def eachT (tx:Nat→List ByteArray):Nat→PT→Nat→Nat × PT × Nat
 | 0,p,k=>(0,p,k)
 | f + 1,p,k=>if (fillB (tx k) p.body).2 ≠ 0 then ((fillB (tx k) p.body).2,p,k + 1) else ((eachL (eachT tx f) p.kids (k + 1)).1,{ p with body:=(fillB (tx k) p.body).1,kids:=(eachL (eachT tx f) p.kids (k + 1)).2.1 },(eachL (eachT tx f) p.kids (k + 1)).2.2)
theorem eachL_bad (E:PT→Nat→Nat × PT × Nat) (x:PT) (l:List PT) (k:Nat) (h:(E x k).1 ≠ 0):eachL E (x::l) k = ((E x k).1,[],(E x k).2.2):=by rw [eachL,if_pos h]
theorem eachL_ok (E:PT→Nat→Nat × PT × Nat) (x:PT) (l:List PT) (k:Nat) (h:(E x k).1 = 0):eachL E (x::l) k = ((eachL E l (E x k).2.2).1,(E x k).2.1::(eachL E l (E x k).2.2).2.1,(eachL E l (E x k).2.2).2.2):=by rw [eachL,if_neg (by rw [h];simp)]
theorem eachL_len (E:PT→Nat→Nat × PT × Nat):∀ (l:List PT) (k:Nat),(eachL E l k).1 = 0→(eachL E l k).2.1.length = l.length
 | [],k,_=>rfl
 | x::l,k,h=>by
  by_cases hx:(E x k).1 = 0
  ·rw [eachL_ok E x l k hx] at h ⊢
   simp only at h ⊢
   rw [List.length_cons,List.length_cons,eachL_len E l _ h]
  ·rw [eachL_bad E x l k hx] at h
   exact absurd h hx
theorem eachT_same (tx:Nat→List ByteArray) (f:Nat) (p:PT) (k:Nat) (h:(eachT tx f p k).1 = 0):(eachT tx f p k).2.1.ty = p.ty∧(eachT tx f p k).2.1.cs = p.cs∧(eachT tx f p k).2.1.id = p.id∧(eachT tx f p k).2.1.loc = p.loc∧(eachT tx f p k).2.1.how = p.how∧(eachT tx f p k).2.1.kids.length = p.kids.length:=by
 cases f with
 | zero=>exact ⟨rfl,rfl,rfl,rfl,rfl,rfl⟩
 | succ f =>
  rw [eachT] at h ⊢
  split at h
  ·rename_i hf
   exact absurd h hf
  ·rename_i hf
   rw [if_neg hf]
   exact ⟨rfl,rfl,rfl,rfl,rfl,eachL_len _ _ _ h⟩
theorem eachL_count (tx:Nat→List ByteArray) (f:Nat) (ih:∀ p k,lev f p = true→(eachT tx f p k).1 = 0→(eachT tx f p k).2.2 = k + (flatP f p).length):∀ (l:List PT) (k:Nat),(∀ x ∈ l,lev f x = true)→(eachL (eachT tx f) l k).1 = 0→(eachL (eachT tx f) l k).2.2 = k + (l.flatMap (flatP f)).length
 | [],k,_,_=>by simp [eachL]
 | x::l,k,hl,h=>by
  by_cases hx:(eachT tx f x k).1 = 0
  ·rw [eachL_ok _ x l k hx] at h ⊢
   simp only at h ⊢
   rw [eachL_count tx f ih l _ (fun y hy=>hl y (List.mem_cons_of_mem _ hy)) h,ih x k (hl x (by simp)) hx,List.flatMap_cons,List.length_append]
   omega
  ·rw [eachL_bad _ x l k hx] at h
   exact absurd h hx
theorem eachT_count (tx:Nat→List ByteArray):∀ (f:Nat) (p:PT) (k:Nat),lev f p = true→(eachT tx f p k).1 = 0→(eachT tx f p k).2.2 = k + (flatP f p).length
 | 0,p,k,hl,_=>by rw [lev] at hl;cases hl
 | f + 1,p,k,hl,h=>by
  rw [lev_succ,List.all_eq_true] at hl
  rw [eachT] at h ⊢
  split at h
  ·rename_i hf
   exact absurd h hf
  ·rename_i hf
   rw [if_neg hf]
   simp only at h ⊢
   rw [eachL_count tx f (eachT_count tx f) _ _ hl h,flatP_succ,List.length_cons]
   omega
theorem pz_set5 (A B:List PZ) (z y:PZ) (h1:y.1.ty = z.1.ty) (h2:y.1.cs = z.1.cs) (h3:y.1.id = z.1.id) (h4:y.1.loc = z.1.loc) (h5:y.1.how = z.1.how) (h6:y.1.kids.length = z.1.kids.length) (h7:y.2.2 = z.2.2):(pzv (A ++ z::B)).set (A.length * 7 + 5) (.slice y.2.1.1 y.1.body.length y.2.1.2) = pzv (A ++ y::B):=by
 have e1:∀ z:PZ,pzv (A ++ z::B) = pzv A ++ (pzc z ++ pzv B):=fun z=>by rw [pzv_append];simp [pzv]
 have hl:(pzv A).length = A.length * 7:=pzv_length A
 rw [e1,e1,List.set_append_right _ _ (by rw [hl];omega),hl,Nat.add_sub_cancel_left]
 unfold pzc
 rw [h1,h2,h3,h4,h5,h6,h7]
 rfl
def OwnY (W:World) (X:Nat→Prop) (f g hi:Nat) (y:PY3):Prop:=g < y.2.1∧y.2.1≤y.2.2∧y.2.2≤hi∧InB (BK X y.2.1 y.2.2 y.1.2.2.1 y.1.1.kids) y.1.2.1.1∧PHeldK (fun a l=>RT W X f y.2.1 y.2.2 a y.1.2.2.2 l) W y.1.1 y.1.2.1.1 y.1.2.1.2 y.1.2.2.1 y.1.2.2.2
theorem OwnY.move {W W':World} {X:Nat→Prop} {f g hi:Nat} {y:PY3} (h:OwnY W X f g hi y) (hm:∀ b,(y.2.1≤b∧b < y.2.2) ∨ X b→b < W.heap.size→W'.heap[b]? = W.heap[b]?):OwnY W' X f g hi y:=by
 obtain ⟨k1,k2,k3,k4,p1,p2,p3,p4,p5⟩:=h
 exact ⟨k1,k2,k3,k4,p1,p2,BRow.move hm p3 (fun a ha=>(k4 a ha).out),p4,RT.move f _ _ _ _ _ hm p5⟩
structure EaAt (X:Nat→Prop) (f lo hi nb g n ck kk:Nat) (w1:World) (Yd Yr:List PY3) (W:World):Prop where
 tch:Tch w1 W (fun x=>x = nb ∨ (g≤x∧x < hi))
 num:NumAt W nb (kk:Int)
 own:W.ownsRow lo 25 7 (.slice (some ⟨g,0,none⟩) n ck) n (pzv ((Yd ++ Yr).map (·.1)))
 pw:(Yd ++ Yr).Pairwise (fun x y=>x.2.2≤y.2.1)
 each:∀ y ∈ Yd ++ Yr,OwnY W X f g hi y
def EachPost (W:World) (b o nb lo hi:Nat) (X:Nat→Prop) (f:Nat) (R:Nat × PT × Nat) (pk:Option Addr) (ck:Nat) (e:Ending) (w':World):Prop :=
 e = .returned (.int .i64 (R.1:Int))∧Tch W w' (fun x=>x = b ∨ x = nb ∨ (lo≤x∧x < hi)) ∧
  (R.1 = 0→NumAt w' nb (R.2.2:Int)∧∃ pb cb,w'.heap[b]? = (W.setCell ⟨b,o + 5,none⟩ (.slice pb R.2.1.body.length cb)).heap[b]?∧InB (BK X lo hi pk R.2.1.kids) pb∧PHeldK (fun a l=>RT w' X f lo hi a ck l) w' R.2.1 pb cb pk ck)
theorem EaAt.step {X:Nat→Prop} {f lo hi nb g n ck kk:Nat} {w1:World} {Yd Yr:List PY3} {y:PY3} {W W':World} (m:EaAt X f lo hi nb g n ck kk w1 Yd (y::Yr) W) (XB:Nat) (hX:X = fun x=>XB≤x) (hhi:hi≤XB) (hnbX:nb < XB) (hnl:¬ (lo≤nb∧nb < hi)) (hlg:lo≤g) (hgh:g < hi)
  (tx:Nat→List ByteArray) (e:Ending) (h0:(eachT tx f y.1.1 kk).1 = 0) (hp:EachPost W g (Yd.length * 7) nb y.2.1 y.2.2 X f (eachT tx f y.1.1 kk) y.1.2.2.1 y.1.2.2.2 e W') :
  ∃ y':PY3,y'.1.1 = (eachT tx f y.1.1 kk).2.1∧EaAt X f lo hi nb g n ck (eachT tx f y.1.1 kk).2.2 w1 (Yd ++ [y']) Yr W':=by
 obtain ⟨_,ht,hok⟩:=hp
 obtain ⟨hn,pb,cb,hg,hi',hh⟩:=hok h0
 obtain ⟨s1,s2,s3,s4,s5,s6⟩:=eachT_same tx f y.1.1 kk h0
 obtain ⟨k1,k2,k3,k4,k5⟩:=m.each y (by simp)
 have hsp:=m.pw
 rw [List.pairwise_append,List.pairwise_cons] at hsp
 obtain ⟨pd,⟨py,pr⟩,pdr⟩:=hsp
 refine ⟨(((eachT tx f y.1.1 kk).2.1,(pb,cb),y.1.2.2),y.2.1,y.2.2),rfl,?_,hn,?_,?_,?_⟩
 ·exact m.tch.trans (ht.mono fun x _ hx=>by
   rcases hx with hx | hx | hx
   ·exact .inr ⟨by omega,by omega⟩
   ·exact .inl hx
   ·exact .inr ⟨by omega,by omega⟩)
 ·have h1:=m.own
  have e1:(Yd ++ y::Yr).map (·.1) = Yd.map (·.1) ++ y.1::Yr.map (·.1):=by simp
  rw [e1] at h1
  have h2:=(h1.stored (Yd.length * 7 + 5) (.slice pb (eachT tx f y.1.1 kk).2.1.body.length cb)).1
  have e2:=pz_set5 (Yd.map (·.1)) (Yr.map (·.1)) y.1 ((eachT tx f y.1.1 kk).2.1,(pb,cb),y.1.2.2) s1 s2 s3 s4 s5 s6 rfl
  rw [List.length_map] at e2
  rw [e2] at h2
  have e3:(Yd ++ [(((eachT tx f y.1.1 kk).2.1,(pb,cb),y.1.2.2),y.2.1,y.2.2)] ++ Yr).map (·.1) = Yd.map (·.1) ++ ((eachT tx f y.1.1 kk).2.1,(pb,cb),y.1.2.2)::Yr.map (·.1):=by simp
  rw [e3]
  exact owns_move h2 (fun x hx=>by
   obtain rfl:g = x:=by simpa [Value.ownBlock] using hx
   exact hg)
 ·rw [List.append_assoc,List.pairwise_append,List.singleton_append,List.pairwise_cons]
  refine ⟨pd,⟨py,pr⟩,fun a ha b hb=>?_⟩
  rcases List.mem_cons.1 hb with rfl | hb
  ·exact pdr a ha y (by simp)
  ·exact pdr a ha b (List.mem_cons_of_mem _ hb)
 ·have hmv:∀ z ∈ Yd ++ y::Yr,(z.2.2≤y.2.1 ∨ y.2.2≤z.2.1)→OwnY W' X f g hi z:=fun z hz hdis=>by
   have hz0:=m.each z hz
   refine hz0.move fun b hb hl=>ht.block b hl (fun hx=>?_)
   have z1:=hz0.1
   have z3:=hz0.2.2.1
   rw [hX] at hb
   simp only at hb
   rcases hb with hb | hb
   ·rcases hx with hx | hx | hx
    ·omega
    ·rw [hx] at hb;exact hnl ⟨by omega,by omega⟩
    ·rcases hdis with hd | hd <;> omega
   ·rcases hx with hx | hx | hx <;> omega
  intro z hz
  rw [List.append_assoc,List.singleton_append] at hz
  rcases List.mem_append.1 hz with hz | hz
  ·exact hmv z (List.mem_append_left _ hz) (.inl (pdr z hz y (by simp)))
  ·rcases List.mem_cons.1 hz with rfl | hz
   ·exact ⟨k1,k2,k3,hi',hh⟩
   ·exact hmv z (List.mem_append_right _ (List.mem_cons_of_mem _ hz)) (.inr (py z hz))
end Go.Proofs.YtbbfcbodhmeanaaGreatDoor



namespace Go.Proofs.YtbbfcbodhmeanaaGreatDoor
open Go.RowKit
abbrev fromB (XB:Nat):Nat→Prop:=fun x=>XB≤x
abbrev doF (T0 nb:Nat):Value:=.func (Fn.func 64) #[] #[.pointer (some ⟨T0,0,none⟩),.pointer (some ⟨nb,0,none⟩)]
set_option maxHeartbeats 8000000 in
set_option maxRecDepth 100000 in
theorem each_any (w0:World) (HE:LEnv w0) (T0 TB nb XB:Nat) (tx:Nat→List ByteArray) (hTB:w0.heap.size≤TB) (hnb:TB≤nb) (hnX:nb < XB):∀ (f:Nat) (p:PT) (b o lo hi k:Nat) (pb:Option Addr) (cb:Nat) (pk:Option Addr) (ck:Nat) (c:Array Value) (W:World),
  lev f p = true→k + (flatP f p).length≤12→TB≤b→b ≠ nb→b < XB→TB≤lo→hi≤XB→¬ (lo≤b∧b < hi)→¬ (lo≤nb∧nb < hi)→Below w0.heap.size w0 W→XB≤W.heap.size→TxAt T0 TB tx W→NumAt W nb (k:Int)→W.heap[b]? = some (.cells c 25)→c[o + 5]? = some (.slice pb p.body.length cb)→c[o + 6]? = some (.slice pk p.kids.length ck)→InB (BK (fromB XB) lo hi pk p.kids) pb→PHeldK (fun a l=>RT W (fromB XB) f lo hi a ck l) W p pb cb pk ck →
  Calls Tryz.prog 63 #[.pointer (some ⟨b,o,none⟩),doF T0 nb] W fun e w'=>EachPost W b o nb lo hi (fromB XB) f (eachT tx f p k) pk ck e w':=by
 intro f
 induction f with
 | zero=>intro p b o lo hi k pb cb pk ck c W hl;rw [lev] at hl;cases hl
 | succ f ih =>
  intro p b o lo hi k pb cb pk ck c W hl h12 hbT hbn hbX hlT hhX hbl hnl hW hXW hT hN hB h5 h6 hI hH
  rw [lev_succ,List.all_eq_true] at hl
  rw [flatP_succ,List.length_cons] at h12
  obtain ⟨hPL,hbc,hbr,hkc,hRT⟩:=hH
  have hRT:RT W (fromB XB) (f + 1) lo hi pk ck p.kids:=hRT
  have CD:Hid (Calls Tryz.prog 64 #[.pointer (some ⟨b,o,none⟩),.pointer (some ⟨T0,0,none⟩),.pointer (some ⟨nb,0,none⟩)] W fun e w'=>DoPost W b o nb k (BK (fromB XB) lo hi pk p.kids) (fillB (tx k) p.body) e w'):=do_any w0 HE T0 TB nb tx hTB hnb b o k hbn (by omega) p.body pb p.body.length cb rfl hbc (BK (fromB XB) lo hi pk p.kids) hI (fun x hx=>by
   have hx':(lo≤x∧x < hi) ∨ XB≤x:=hx.out
   rcases hx' with hx' | hx'
   ·exact ⟨fun e=>hnl (by rw [← e];exact hx'),fun e=>hbl (by rw [← e];exact hx')⟩
   ·exact ⟨by omega,by omega⟩) W hW hT hN c hB h5 hbr
  have HET0:Hid ((fillB (tx k) p.body).2 ≠ 0→eachT tx (f + 1) p k = ((fillB (tx k) p.body).2,p,k + 1)):=fun h=>by rw [eachT,if_pos h]
  have HET1:Hid ((fillB (tx k) p.body).2 = 0→eachT tx (f + 1) p k = ((eachL (eachT tx f) p.kids (k + 1)).1,{ p with body:=(fillB (tx k) p.body).1,kids:=(eachL (eachT tx f) p.kids (k + 1)).2.1 },(eachL (eachT tx f) p.kids (k + 1)).2.2)):=fun h=>by rw [eachT,if_neg (by rw [h];simp)]
  generalize fillB (tx k) p.body = R1 at *
  obtain ⟨B1,E1⟩:=R1
  simp only at HET0 HET1
  have hbL:b < W.heap.size:=(Array.getElem?_eq_some_iff.1 hB).1
  by_cases hE1:E1 = 0
  ·subst hE1
   have hET:=HET1.out rfl
   have HMID:Hid (∀ e w1,DoPost W b o nb k (BK (fromB XB) lo hi pk p.kids) (B1,0) e w1→e = .returned (.int .i64 0)∧NumAt w1 nb ((k + 1:Nat):Int)∧Tch W w1 (fun x=>x = b ∨ x = nb ∨ (lo≤x∧x < hi))∧w1.cell? ⟨b,o + 6,none⟩ = some (.slice pk p.kids.length ck)∧RT w1 (fromB XB) (f + 1) lo hi pk ck p.kids∧Below w0.heap.size w0 w1∧TxAt T0 TB tx w1∧XB≤w1.heap.size∧b < w1.heap.size∧∃ pb1 cb1,w1.heap[b]? = (W.setCell ⟨b,o + 5,none⟩ (.slice pb1 B1.length cb1)).heap[b]?∧BRow w1 pb1 B1∧(B1.length≤cb1∧cb1≤maxLen∧(pb1 = none→cb1 = 0))∧InB (BK (fromB XB) lo hi pk p.kids) pb1):=by
    rintro e w1 ⟨he,h1,h2,h3⟩
    obtain ⟨pb1,cb1,g1,g2,g3,g4⟩:=h3 rfl
    have hB1:=g1
    rw [set_blk hB] at hB1
    refine ⟨he,h1,h2.mono (fun x _ hx=>by rcases hx with hx | hx;exact .inl hx;exact .inr (.inl hx)),?_,RT.move (f + 1) lo hi pk ck p.kids (fun x hx hl=>h2.block x hl (fun hy=>?_)) hRT,h2.under hW (by omega) (fun x hx=>by rcases hx with hx | hx <;> omega),hT.tch h2 (fun x hx=>by rcases hx with hx | hx <;> omega),Nat.le_trans hXW h2.size,Nat.lt_of_lt_of_le hbL h2.size,pb1,cb1,g1,g2,g3,fun a ha=>?_⟩
    ·rw [blk_c hB1 (o + 6),Array.getElem?_setIfInBounds_ne (by omega)]
     exact h6
    ·have hx':(lo≤x∧x < hi) ∨ XB≤x:=hx
     rcases hy with hy | hy
     ·rcases hx' with hx' | hx'
      ·exact hbl (by rw [← hy];exact hx')
      ·omega
     ·rcases hx' with hx' | hx'
      ·exact hnl (by rw [← hy];exact hx')
      ·omega
    ·rcases g4 a ha with g | g
     ·exact g
     ·exact .inr (show XB≤a.block by omega)
   have HPL:Hid (PLen p):=hPL
   have HKC:Hid (p.kids.length≤ck∧ck≤maxLen∧(pk = none→ck = 0)):=hkc
   have HET:Hid (eachT tx (f + 1) p k = ((eachL (eachT tx f) p.kids (k + 1)).1,{ p with body:=B1,kids:=(eachL (eachT tx f) p.kids (k + 1)).2.1 },(eachL (eachT tx f) p.kids (k + 1)).2.2)):=hET
   have HLV:Hid (∀ x ∈ p.kids,lev f x = true):=hl
   have HIH:Hid (∀ (p:PT) (b o lo hi k:Nat) (pb:Option Addr) (cb:Nat) (pk:Option Addr) (ck:Nat) (c:Array Value) (W:World),lev f p = true→k + (flatP f p).length≤12→TB≤b→b ≠ nb→b < XB→TB≤lo→hi≤XB→¬ (lo≤b∧b < hi)→¬ (lo≤nb∧nb < hi)→Below w0.heap.size w0 W→XB≤W.heap.size→TxAt T0 TB tx W→NumAt W nb (k:Int)→W.heap[b]? = some (.cells c 25)→c[o + 5]? = some (.slice pb p.body.length cb)→c[o + 6]? = some (.slice pk p.kids.length ck)→InB (BK (fromB XB) lo hi pk p.kids) pb→PHeldK (fun a l=>RT W (fromB XB) f lo hi a ck l) W p pb cb pk ck→Calls Tryz.prog 63 #[.pointer (some ⟨b,o,none⟩),doF T0 nb] W fun e w'=>EachPost W b o nb lo hi (fromB XB) f (eachT tx f p k) pk ck e w'):=ih
   have H12:Hid (k + ((p.kids.flatMap (flatP f)).length + 1)≤12):=h12
   have HCON:Hid (TB≤b∧b ≠ nb∧b < XB∧TB≤lo∧hi≤XB∧¬ (lo≤b∧b < hi)∧¬ (lo≤nb∧nb < hi)):=⟨hbT,hbn,hbX,hlT,hhX,hbl,hnl⟩
   clear hET HET0 HET1 hPL hbc hbr hkc hRT hl h12 hW hXW hT hN hB h5 h6 hI ih HE hbT hbn hbX hlT hhX hbl hnl hbL
   obtain ⟨n,hn⟩:∃ n,p.kids.length = n:=⟨_,rfl⟩
   have HN:Hid (p.kids.length = n):=hn
   have hnm:n≤9223372036854775807:=by have:=HPL.out.2.2.2.2.2.2.2;unfold maxLen at this;omega
   generalize eachT tx (f + 1) p k = RES at *
   go_enter Tryz.func63,Tryz.ntmps63
   go_wp2_with fail
   refine CD.out.mono ?_
   rintro e w1 hD
   obtain ⟨rfl,hn1,ht1,hc6,hRT1,hW1,hT1,hX1,hb1,pb1,cb1,hB1,hr1,hc1,hi1⟩:=HMID.out e w1 hD
   rw [hn] at hc6
   have HT1:Hid (Tch W w1 (fun x=>x = b ∨ x = nb ∨ (lo≤x∧x < hi))):=ht1
   have HN1:Hid (NumAt w1 nb ((k + 1:Nat):Int)):=hn1
   have HW1:Hid (Below w0.heap.size w0 w1∧TxAt T0 TB tx w1∧XB≤w1.heap.size∧b < w1.heap.size):=⟨hW1,hT1,hX1,hb1⟩
   have HB1:Hid (w1.heap[b]? = (W.setCell ⟨b,o + 5,none⟩ (.slice pb1 B1.length cb1)).heap[b]?):=hB1
   have HR1:Hid (BRow w1 pb1 B1∧(B1.length≤cb1∧cb1≤maxLen∧(pb1 = none→cb1 = 0))∧InB (BK (fromB XB) lo hi pk p.kids) pb1):=⟨hr1,hc1,hi1⟩
   have HRT:Hid (RT w1 (fromB XB) (f + 1) lo hi pk ck p.kids):=hRT1
   have HC6:Hid (w1.cell? ⟨b,o + 6,none⟩ = some (.slice pk n ck)):=hc6
   clear hD HMID CD hn1 ht1 hRT1 hW1 hT1 hX1 hb1 hB1 hr1 hc1 hi1 hn
   have hPN:∀ (l:List PT),l.length = n→PLen { p with body:=B1,kids:=l }:=fun l hl=>by
    obtain ⟨l1,l2,l3,l4,l5,l6,l7,l8⟩:=HPL.out
    exact ⟨l1,l2,l3,l4,l5,l6,Nat.le_trans HR1.out.2.1.1 HR1.out.2.1.2.1,by show l.length≤maxLen;rw [hl,← HN.out];exact l8⟩
   have HPN:Hid (∀ (l:List PT),l.length = n→PLen { p with body:=B1,kids:=l }):=hPN
   clear hPN
   by_cases hk0:n = 0
   ·subst hk0
    have hkn:p.kids = []:=List.length_eq_zero_iff.1 HN.out
    have HFIN:Hid (EachPost W b o nb lo hi (fromB XB) (f + 1) RES pk ck (.returned (.int .i64 0)) w1):=by
     unfold Hid
     rw [HET.out,hkn]
     refine ⟨rfl,HT1.out,fun _=>⟨HN1.out,pb1,cb1,HB1.out,(fun a ha=>(HR1.out.2.2 a ha).imp_left fun h=>⟨h.1,h.2.1,fun hx=>absurd rfl hx⟩),HPN.out [] rfl,HR1.out.2.1,HR1.out.1,?_,RT.nil _ _ _ _ _ _ _⟩⟩
     have:=HKC.out
     exact ⟨Nat.zero_le _,this.2.1,this.2.2⟩
    clear hkn HET HPN HRT HIH HC6 HB1 HR1 HN1 HT1 HW1
    go_wp2_with fail
    go_loopw [19] (fun iv wr=>iv = .int .i64 0∧wr = w1) (fun _ _=>0)
    case atStart=>exact ⟨rfl,rfl⟩
    case round =>
     obtain ⟨rfl,hwr⟩:=hrel
     have hwr':=hwr.symm
     subst hwr'
     go_wp2_with fail
     go_ret
     exact HFIN.out
   ·have hne:p.kids ≠ []:=fun e=>hk0 (by rw [← HN.out,e];rfl)
    obtain ⟨g,Y,hpk,hlg,hgh,hY,hown,hpw,hea⟩:=HRT.out hne
    subst hpk
    rw [HN.out] at hown
    have HEA0:Hid (EaAt (fromB XB) f lo hi nb g n ck (k + 1) w1 [] Y w1):=⟨Tch.refl _ _,HN1.out,hown,hpw,hea⟩
    have HY0:Hid (Y.map (·.1.1) = p.kids.drop 0):=hY
    have HG:Hid (lo≤g∧g < hi):=⟨hlg,hgh⟩
    clear hlg hgh hY hown hpw hea hne HRT HN1
    go_wp2_with fail
    clear hc6
    go_loopw [19] (fun iv wr=>∃ (i kk:Nat) (Yd Yr:List PY3),i≤n∧iv = .int .i64 i∧Hid (Yd.length = i)∧Hid (Yr.map (·.1.1) = p.kids.drop i)∧Hid (kk + ((p.kids.drop i).flatMap (flatP f)).length≤12)∧Hid (eachL (eachT tx f) p.kids (k + 1) = ((eachL (eachT tx f) (p.kids.drop i) kk).1,Yd.map (·.1.1) ++ (eachL (eachT tx f) (p.kids.drop i) kk).2.1,(eachL (eachT tx f) (p.kids.drop i) kk).2.2))∧Hid (EaAt (fromB XB) f lo hi nb g n ck kk w1 Yd Yr wr)) (fun iv _=>n - (intOf iv).toNat)
    case atStart=>exact ⟨0,k + 1,[],Y,Nat.zero_le _,rfl,rfl,HY0,by unfold Hid;have:=H12.out;rw [List.drop_zero];omega,by unfold Hid;rw [List.drop_zero];rfl,HEA0⟩
    case round =>
     obtain ⟨i,kk,Yd,Yr,hin,rfl,HYl,HYr,HKK,HEL,HEA⟩:=hrel
     clear HEA0 HY0
     obtain ⟨cT,cn,cX,clT,chX,cbl,cnl⟩:=HCON.out
     obtain ⟨hlg,hgh⟩:=HG.out
     have c6:wr.cell? ⟨b,o + 6,none⟩ = some (.slice (some ⟨g,0,none⟩) n ck):=by
      rw [World.cell?_of_block (show wr.heap[b]? = w1.heap[b]? from HEA.out.tch.block b HW1.out.2.2.2 (fun hx=>by rcases hx with hx | hx;exact cn hx;exact cbl ⟨by omega,hx.2⟩))]
      exact HC6.out
     by_cases hlt:i < n
     ·have hlz:(i:Int) < (n:Int):=by omega
      have hik:i < p.kids.length:=by rw [HN.out];exact hlt
      have hdr:p.kids.drop i = p.kids[i]::p.kids.drop (i + 1):=List.drop_eq_getElem_cons hik
      obtain ⟨y,Yr',hYr⟩:∃ y Yr',Yr = y::Yr':=by
       cases hYr:Yr with
       | nil=>have:=HYr.out;rw [hYr,hdr] at this;cases this
       | cons y Yr'=>exact ⟨y,Yr',rfl⟩
      subst hYr
      have hyk:y.1.1 = p.kids[i]∧Yr'.map (·.1.1) = p.kids.drop (i + 1):=by
       have:=HYr.out
       rw [hdr,List.map_cons] at this
       injection this with h1 h2
       exact ⟨h1,h2⟩
      have hlev:lev f y.1.1 = true:=HLV.out _ (by rw [hyk.1];exact List.getElem_mem hik)
      have hb12:kk + (flatP f y.1.1).length + ((p.kids.drop (i + 1)).flatMap (flatP f)).length≤12:=by have:=HKK.out;rw [hdr,List.flatMap_cons,List.length_append,← hyk.1] at this;omega
      have hEL:=HEL.out
      rw [hdr,← hyk.1] at hEL
      obtain ⟨q1,q2,q3,q4,q5⟩:=HEA.out.each y (by simp)
      obtain ⟨cur,hcur⟩:∃ cur,wr.heap[g]? = some (.cells cur 25):=by
       rcases HEA.out.own.2 with ⟨e,_⟩ | ⟨g',cap,cur,e,_,e3,_⟩
       ·cases e
       ·cases e
        exact ⟨cur,e3⟩
      have hat:∀ j u,(pzc y.1)[j]? = some u→j < 7→cur[i * 7 + j]? = some u:=fun j u hj h7=>by
       rw [← blk_c hcur (i * 7 + j),HEA.out.own.cellAt (i * 7 + j) (by omega)]
       refine pz_at _ i y.1 ?_ j u hj
       rw [List.map_append,List.getElem?_append_right (by rw [List.length_map,HYl.out];exact Nat.le_refl _),List.length_map,HYl.out,Nat.sub_self]
       rfl
      have htu:∀ x,(x = nb ∨ (g≤x∧x < hi))→TB≤x:=fun x hx=>by rcases hx with hx | hx <;> omega
      have IH1:Hid (Calls Tryz.prog 63 #[.pointer (some ⟨g,i * 7,none⟩),doF T0 nb] wr fun e w'=>EachPost wr g (i * 7) nb y.2.1 y.2.2 (fromB XB) f (eachT tx f y.1.1 kk) y.1.2.2.1 y.1.2.2.2 e w'):=HIH.out y.1.1 g (i * 7) y.2.1 y.2.2 kk y.1.2.1.1 y.1.2.1.2 y.1.2.2.1 y.1.2.2.2 cur wr hlev (by omega) (by omega) (fun e=>cnl (by rw [← e];exact ⟨hlg,hgh⟩)) (by omega) (by omega) (by omega) (by omega) (fun h=>cnl ⟨by omega,by omega⟩) (HEA.out.tch.under HW1.out.1 (by have:=HW1.out.2.2.1;omega) (fun x hx=>by have:=htu x hx;omega)) (Nat.le_trans HW1.out.2.2.1 HEA.out.tch.size) (HW1.out.2.1.tch HEA.out.tch htu) HEA.out.num hcur (hat 5 _ rfl (by decide)) (hat 6 _ rfl (by decide)) q4 q5
      have HST:Hid (∀ e w2,(eachT tx f y.1.1 kk).1 = 0→EachPost wr g (i * 7) nb y.2.1 y.2.2 (fromB XB) f (eachT tx f y.1.1 kk) y.1.2.2.1 y.1.2.2.2 e w2→∃ y':PY3,y'.1.1 = (eachT tx f y.1.1 kk).2.1∧EaAt (fromB XB) f lo hi nb g n ck (eachT tx f y.1.1 kk).2.2 w1 (Yd ++ [y']) Yr' w2):=fun e w2 h0 hP=>HEA.out.step XB rfl chX hnX cnl hlg hgh tx e h0 (by rw [HYl.out];exact hP)
      have HTB:Hid (∀ w2,Tch wr w2 (fun x=>x = g ∨ x = nb ∨ (y.2.1≤x∧x < y.2.2))→Tch W w2 (fun x=>x = b ∨ x = nb ∨ (lo≤x∧x < hi))):=fun w2 ht=>(HT1.out.trans (HEA.out.tch.mono fun x _ hx=>by rcases hx with hx | hx;exact .inr (.inl hx);exact .inr (.inr ⟨by omega,hx.2⟩))).trans (ht.mono fun x _ hx=>by
       rcases hx with hx | hx | hx
       ·exact .inr (.inr ⟨by omega,by omega⟩)
       ·exact .inr (.inl hx)
       ·exact .inr (.inr ⟨by omega,by omega⟩))
      have HCNT:Hid ((eachT tx f y.1.1 kk).1 = 0→(eachT tx f y.1.1 kk).2.2 + ((p.kids.drop (i + 1)).flatMap (flatP f)).length≤12):=fun h0=>by rw [eachT_count tx f y.1.1 kk hlev h0];exact hb12
      have HYK:Hid (Yr'.map (·.1.1) = p.kids.drop (i + 1)):=hyk.2
      have HOK:Hid ((eachT tx f y.1.1 kk).1 = 0→eachL (eachT tx f) p.kids (k + 1) = ((eachL (eachT tx f) (p.kids.drop (i + 1)) (eachT tx f y.1.1 kk).2.2).1,(Yd.map (·.1.1) ++ [(eachT tx f y.1.1 kk).2.1]) ++ (eachL (eachT tx f) (p.kids.drop (i + 1)) (eachT tx f y.1.1 kk).2.2).2.1,(eachL (eachT tx f) (p.kids.drop (i + 1)) (eachT tx f y.1.1 kk).2.2).2.2)):=fun h0=>by rw [hEL,eachL_ok _ _ _ _ h0,List.append_assoc];rfl
      have HBAD:Hid ((eachT tx f y.1.1 kk).1 ≠ 0→RES.1 = (eachT tx f y.1.1 kk).1):=fun h0=>by rw [HET.out,hEL,eachL_bad _ _ _ _ h0]
      clear hdr hyk hlev hb12 hEL q1 q2 q3 q4 q5 hcur hat htu HEA HYr HKK HEL hik hlg hgh cT cn cX clT chX cbl cnl
      generalize eachT tx f y.1.1 kk = R at *
      obtain ⟨RE,RP,RK⟩:=R
      simp only at HST HCNT HOK HBAD
      go_wp2_with fail
      refine IH1.out.mono ?_
      rintro e w2 hP
      obtain ⟨he,hT2,_⟩:=id hP
      simp only at he
      subst he
      by_cases h0:RE = 0
      ·subst h0
       obtain ⟨y',hy',hst⟩:=HST.out _ w2 rfl hP
       have HS2:Hid (EaAt (fromB XB) f lo hi nb g n ck RK w1 (Yd ++ [y']) Yr' w2):=hst
       have HE2:Hid (eachL (eachT tx f) p.kids (k + 1) = ((eachL (eachT tx f) (p.kids.drop (i + 1)) RK).1,(Yd ++ [y']).map (·.1.1) ++ (eachL (eachT tx f) (p.kids.drop (i + 1)) RK).2.1,(eachL (eachT tx f) (p.kids.drop (i + 1)) RK).2.2)):=by
        unfold Hid
        rw [HOK.out rfl,List.map_append]
        simp only [List.map_cons,List.map_nil,hy']
       have HL2:Hid ((Yd ++ [y']).length = i + 1):=by unfold Hid;rw [List.length_append,HYl.out];rfl
       have HK2:Hid (RK + ((p.kids.drop (i + 1)).flatMap (flatP f)).length≤12):=HCNT.out rfl
       clear hP hT2 hst hy' HST IH1 HCNT HOK HBAD HTB
       go_wp2_with fail
       go_roundw
       case rel=>exact ⟨i + 1,RK,Yd ++ [y'],Yr',by omega,by go_num,HL2,HYK,HK2,HE2,HS2⟩
       case measure=>simp [intOf];omega
      ·have hz:((RE:Int) == 0) = false:=by rw [beq_eq_false_iff_ne];omega
       have hz2:¬ (RE:Int) = 0:=by omega
       have hR:=HBAD.out h0
       have HFIN:Hid (EachPost W b o nb lo hi (fromB XB) (f + 1) RES (some ⟨g,0,none⟩) ck (.returned (.int .i64 (RE:Int))) w2):=⟨by rw [hR],HTB.out w2 hT2,fun h=>absurd (hR.symm.trans h) h0⟩
       clear hP hT2 HST IH1 HCNT HOK HBAD HTB hR
       go_wp2_with fail
       go_ret
       exact HFIN.out
     ·have hlz:¬ (i:Int) < (n:Int):=by omega
      obtain rfl:i = n:=by omega
      have hdr:p.kids.drop i = []:=List.drop_of_length_le (by rw [HN.out];exact Nat.le_refl _)
      have hEL:=HEL.out
      rw [hdr,eachL] at hEL
      simp only [List.append_nil] at hEL
      have hYr:Yr = []:=by
       have:=HYr.out
       rw [hdr] at this
       exact List.map_eq_nil_iff.1 this
      have HFIN:Hid (EachPost W b o nb lo hi (fromB XB) (f + 1) RES (some ⟨g,0,none⟩) ck (.returned (.int .i64 0)) wr):=by
       unfold Hid
       rw [HET.out,hEL]
       have hlenY:(Yd.map (·.1.1)).length = i:=by rw [List.length_map,HYl.out]
       have hkne:p.kids ≠ []:=fun e=>hk0 (by rw [← HN.out,e];rfl)
       refine ⟨rfl,HT1.out.trans (HEA.out.tch.mono fun x _ hx=>by rcases hx with hx | hx;exact .inr (.inl hx);exact .inr (.inr ⟨by omega,hx.2⟩)),fun _=>⟨HEA.out.num,pb1,cb1,?_,(fun a ha=>(HR1.out.2.2 a ha).imp_left fun h=>⟨h.1,h.2.1,fun _=>h.2.2 hkne⟩),HPN.out _ hlenY,HR1.out.2.1,?_,?_,fun _=>⟨g,Yd,rfl,hlg,hgh,rfl,?_,?_,?_⟩⟩⟩
       ·rw [HEA.out.tch.block b HW1.out.2.2.2 (fun hx=>by rcases hx with hx | hx;exact cn hx;exact cbl ⟨by omega,hx.2⟩)]
        exact HB1.out
       ·refine BRow.move (Q:=fun x=>¬ (x = nb ∨ (g≤x∧x < hi))) (fun x hx hl=>HEA.out.tch.block x hl hx) HR1.out.1 (fun a ha hx=>?_)
        rcases HR1.out.2.2 a ha with h | h
        ·have hg:=h.2.2 hkne g rfl
         rcases hx with hx | hx
         ·exact cnl (by rw [← hx];exact ⟨h.1,h.2.1⟩)
         ·omega
        ·have h':XB≤a.block:=h
         rcases hx with hx | hx <;> omega
       ·show (Yd.map (·.1.1)).length≤ck∧_
        rw [hlenY,← HN.out]
        exact HKC.out
       ·show wr.ownsRow lo _ 7 (.slice _ (Yd.map (·.1.1)).length ck) (Yd.map (·.1.1)).length _
        rw [hlenY]
        have:=HEA.out.own
        rw [hYr,List.append_nil] at this
        exact this
       ·have:=HEA.out.pw
        rw [hYr,List.append_nil] at this
        exact this
       ·intro y hy
        exact HEA.out.each y (List.mem_append_left _ hy)
      clear hdr hEL hYr HEL HYr HYl HKK HEA hlg hgh cT cn cX clT chX cbl cnl
      go_wp2_with fail
      go_ret
      exact HFIN.out
  ·have hz:((E1:Int) == 0) = false:=by rw [beq_eq_false_iff_ne];omega
   have hz2:¬ (E1:Int) = 0:=by omega
   have HF:Hid (∀ e w1,DoPost W b o nb k (BK (fromB XB) lo hi pk p.kids) (B1,E1) e w1→e = .returned (.int .i64 (E1:Int))∧EachPost W b o nb lo hi (fromB XB) (f + 1) (eachT tx (f + 1) p k) pk ck (.returned (.int .i64 (E1:Int))) w1):=by
    rintro e w1 ⟨he,h1,h2,_⟩
    rw [HET0.out hE1]
    exact ⟨he,rfl,h2.mono (fun x _ hx=>by rcases hx with hx | hx;exact .inl hx;exact .inr (.inl hx)),fun h=>absurd h hE1⟩
   generalize eachT tx (f + 1) p k = RES at *
   clear HET0 HET1 hPL hbc hbr hkc hRT hl h12 hW hXW hT hN hB h5 h6 hI ih HE hbT hbn hbX hlT hhX hbl hnl hbL
   go_enter Tryz.func63,Tryz.ntmps63
   go_wp2_with fail
   refine CD.out.mono ?_
   rintro e w1 hD
   obtain ⟨rfl,hP⟩:=HF.out e w1 hD
   have HP:Hid (EachPost W b o nb lo hi (fromB XB) (f + 1) RES pk ck (.returned (.int .i64 (E1:Int))) w1):=hP
   clear hD hP HF CD
   go_wp2_with fail
   go_ret
   exact HP.out
end Go.Proofs.YtbbfcbodhmeanaaGreatDoor



namespace Go.Proofs.YtbbfcbodhmeanaaGreatDoor
open Go.RowKit Go.WideMaps Go.Maps
set_option maxHeartbeats 8000000 in
set_option maxRecDepth 100000 in
theorem ncheck_any (a:Option Addr) (n c:Nat) (l:List NM) (en:n = l.length) (parts:Int) (hl:NLen l) (w:World) (hr:NmRow w a l) :
  Calls Tryz.prog 24 #[.slice a n c,.int .i64 parts] w fun e w'=>e = .returned (.int .i64 (checkN parts (-1) [] l:Nat))∧Below w.heap.size w w':=by
 have hn63:n≤9223372036854775807:=by have:=hl.1;unfold maxLen at this;omega
 have HSN:Hid (Seen (w.alloc (.map #[] 0)) w.heap.size 0 []):=seen_made w
 have HN:Hid (n = l.length):=en
 have HL:Hid (NLen l):=hl
 have HR:Hid (NmRow w a l):=hr
 have CM:Hid (∀ (s:ByteArray) W,s.size≤maxLen→Calls Tryz.prog 69 #[.string s] W fun e w'=>e = .returned (.bool (mayN s.data.toList))∧Below W.heap.size W w'):=fun s W hs=>may_any s hs W
 obtain ⟨RES,hRES⟩:∃ r,checkN parts (-1) [] l = r:=⟨_,rfl⟩
 have HRES:Hid (checkN parts (-1) [] (l.drop 0) = RES):=hRES
 rw [hRES]
 clear hRES hr hl en
 have hmm:=@run_makeMap Tryz.prog
 go_enter Tryz.func24,Tryz.ntmps24
 go_wp2_with fail
 clear hmm
 have hb1:Below w.heap.size w (w.alloc (.map #[] 0)):=(Below.refl _ _).alloc (Nat.le_refl _) _
 go_loopw [6,12] (fun lv iv wr=>∃ (k:Nat) (last:Int) (seen:List (List UInt8)),k≤n∧iv = .int .i64 k∧lv = .int .i64 last∧seen.length = k∧Hid (Below w.heap.size w wr)∧Hid (Seen wr w.heap.size seen.length seen)∧Hid (checkN parts last seen (l.drop k) = RES)) (fun _ iv _=>n - (intOf iv).toNat)
 case atStart=>exact ⟨0,-1,[],Nat.zero_le _,rfl,rfl,rfl,hb1,HSN,HRES⟩
 case round =>
  obtain ⟨k,last,seen,hk,rfl,rfl,hsk,HB,HS,HC⟩:=hrel
  clear HSN HRES hb1
  by_cases hlt:k < n
  ·have hlz:(k:Int) < (n:Int):=by omega
   have hkl:k < l.length:=by rw [← HN.out];exact hlt
   obtain ⟨b,o,rfl,hc⟩:=(HR.out.below HB.out) (fun e=>by rw [e] at hkl;simp at hkl)
   obtain ⟨d0,d1⟩:=hc k hkl
   obtain ⟨hi1,hi2,hsz⟩:=HL.out.at k hkl
   have HAT:Hid (RES = if (l.getD k nm0).1 < 0 ∨ parts≤(l.getD k nm0).1 then 5 else if mayN (l.getD k nm0).2.data.toList = false then 1 else if seen.contains (l.getD k nm0).2.data.toList = true ∨ (l.getD k nm0).1≤last then 6 else checkN parts (l.getD k nm0).1 ((l.getD k nm0).2.data.toList::seen) (l.drop (k + 1))):=HC.out.symm.trans (check_at parts last seen l k hkl)
   clear hc HC hkl
   generalize l.getD k nm0 = x at *
   obtain ⟨m,s⟩:=x
   simp only at d0 d1 hi1 hi2 hsz HAT
   obtain ⟨Wx,hWx⟩:∃ W,W = wr.alloc (.cells #[.int .i64 m,.string s] 56):=⟨_,rfl⟩
   have hbx:Below wr.heap.size wr Wx:=by rw [hWx];exact (Below.refl _ _).alloc (Nat.le_refl _) _
   have kx:Wx.heap[wr.heap.size]? = some (.cells #[.int .i64 m,.string s] 56):=by rw [hWx];exact blk_new _ _
   have hsx:Seen Wx w.heap.size seen.length seen:=HS.out.move (hbx.block _ HS.out.lt)
   have hbwx:Below w.heap.size w Wx:=HB.out.trans (hbx.mono HB.out.size)
   have HWX:Hid (Wx = wr.alloc (.cells #[.int .i64 m,.string s] 56)):=hWx
   have HKX:Hid (Wx.heap[wr.heap.size]? = some (.cells #[.int .i64 m,.string s] 56)):=kx
   have HSX:Hid (Seen Wx w.heap.size seen.length seen):=hsx
   have HBX:Hid (Below w.heap.size w Wx):=hbwx
   have hlx:w.heap.size < wr.heap.size:=HS.out.lt
   clear hWx hbx kx hsx hbwx HB HS
   obtain ⟨Y,hY⟩:∃ Y,wr.heap.size = Y:=⟨_,rfl⟩
   go_upto_region 6 with fail
   rw [← HWX.out]
   rw [hY] at HKX hlx
   have z0:Wx.cell? ⟨Y,0,none⟩ = some (.int .i64 m):=(blk_c HKX.out 0).trans rfl
   have z1:Wx.cell? ⟨Y,1,none⟩ = some (.string s):=(blk_c HKX.out 1).trans rfl
   clear d0 d1 HWX
   by_cases h1:m < 0
   ·have h1':decide (m < 0) = true:=by simpa using h1
    have HF:Hid (RES = 5):=by unfold Hid;rw [HAT.out,if_pos (Or.inl h1)]
    clear HAT
    go_wp2_with fail
    go_ret
    refine ⟨?_,HBX.out⟩
    rw [HF.out]
    rfl
   ·have h1':decide (m < 0) = false:=by simpa using h1
    by_cases h2:parts≤m
    ·have h2':decide (parts≤m) = true:=by simpa using h2
     have HF:Hid (RES = 5):=by unfold Hid;rw [HAT.out,if_pos (Or.inr h2)]
     clear HAT
     go_wp2_with fail
     go_ret
     refine ⟨?_,HBX.out⟩
     rw [HF.out]
     rfl
    ·have h2':decide (parts≤m) = false:=by simpa using h2
     have CM1:Hid (∀ W,Calls Tryz.prog 69 #[.string s] W fun e w'=>e = .returned (.bool (mayN s.data.toList))∧Below W.heap.size W w'):=fun W=>CM.out s W hsz
     rw [if_neg (by omega)] at HAT
     go_wp2_with fail
     refine (CM1.out _).mono ?_
     rintro e w2 ⟨rfl,hb2⟩
     have kx2:=blk_on HKX.out hb2
     have HS2:Hid (Seen w2 w.heap.size seen.length seen):=HSX.out.move (hb2.block _ HSX.out.lt)
     have HB2:Hid (Below w.heap.size w w2):=HBX.out.trans (hb2.mono HBX.out.size)
     have HK2:Hid (w2.heap[Y]? = some (.cells #[.int .i64 m,.string s] 56)):=kx2
     clear z0 z1 HKX HSX HBX CM1 hb2 kx2
     cases hmy:mayN s.data.toList with
     | false =>
      have HF:Hid (RES = 1):=by unfold Hid;rw [HAT.out,if_pos hmy]
      clear HAT hmy
      go_wp2_with fail
      go_ret
      refine ⟨?_,HB2.out⟩
      rw [HF.out]
      rfl
     | true =>
      rw [if_neg (by rw [hmy];simp)] at HAT
      clear hmy
      have z0:w2.cell? ⟨Y,0,none⟩ = some (.int .i64 m):=(blk_c HK2.out 0).trans rfl
      have z1:w2.cell? ⟨Y,1,none⟩ = some (.string s):=(blk_c HK2.out 1).trans rfl
      have hlk:=HS2.out.look s hsz
      cases hcn:seen.contains s.data.toList with
      | true =>
       have HF:Hid (RES = 6):=by unfold Hid;rw [HAT.out,if_pos (Or.inl hcn)]
       have hpos:=count_some hcn
       have hp':(0:Int) < ((seen.count s.data.toList:Nat):Int):=by omega
       clear HAT hcn
       generalize seen.count s.data.toList = cnt at *
       go_wp2_with fail
       go_ret
       refine ⟨?_,HB2.out⟩
       rw [HF.out]
       rfl
      | false =>
       have hzer:=count_no hcn
       rw [hzer] at hlk
       by_cases h3:m≤last
       ·have h3':decide (m≤last) = true:=by simpa using h3
        have HF:Hid (RES = 6):=by unfold Hid;rw [HAT.out,if_pos (Or.inr h3)]
        clear HAT hcn
        go_wp2_with fail
        go_ret
        refine ⟨?_,HB2.out⟩
        rw [HF.out]
        rfl
       ·have h3':decide (m≤last) = false:=by simpa using h3
        have HNX:Hid (checkN parts m (s.data.toList::seen) (l.drop (k + 1)) = RES):=by unfold Hid;rw [HAT.out,if_neg (by rw [hcn];simp;omega)]
        obtain ⟨w7,hup,hsn7,hg7⟩:=HS2.out.put s hsz (by have:=HL.out.1;have:=HN.out;omega) 1 (by rw [hzer];rfl) (by omega)
        have k7:w7.heap[Y]? = some (.cells #[.int .i64 m,.string s] 56):=by
         rw [hg7.block Y (Array.getElem?_eq_some_iff.1 HK2.out).1 (by intro e;have:=Option.some.inj e;omega)]
         exact HK2.out
        have y0:w7.cell? ⟨Y,0,none⟩ = some (.int .i64 m):=(blk_c k7 0).trans rfl
        have HB7:Hid (Below w.heap.size w w7):=HB2.out.grown hg7 HB2.out.size (fun j hj=>by have:=Option.some.inj hj;omega)
        have HS7:Hid (Seen w7 w.heap.size (s.data.toList::seen).length (s.data.toList::seen)):=hsn7
        clear HAT hcn hzer hsn7 hg7 k7 HS2 HB2 HK2
        go_wp2_with fail
        go_roundw
        case rel=>exact ⟨k + 1,m,s.data.toList::seen,by omega,by go_num,rfl,by rw [List.length_cons,hsk],HB7,HS7,HNX⟩
        case measure=>simp [intOf];omega
  ·have hlz:¬ (k:Int) < (n:Int):=by omega
   have HF:Hid (RES = 0):=by
    have h:=HC.out
    rw [List.drop_of_length_le (by rw [← HN.out];omega),checkN] at h
    exact h.symm
   clear HC
   go_wp2_with fail
   go_ret
   refine ⟨?_,HB.out⟩
   rw [HF.out]
   rfl
end Go.Proofs.YtbbfcbodhmeanaaGreatDoor



namespace Go.Proofs.YtbbfcbodhmeanaaGreatDoor
end Go.Proofs.YtbbfcbodhmeanaaGreatDoor


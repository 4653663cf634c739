
import Derived.Test.YtbbfcbodhmeanaaGreatDoorXrewritesays29
namespace Go.Proofs.YtbbfcbodhmeanaaGreatDoor
open Go.RowKit
def callS (names:List NM):Nat→ByteArray:=names.foldl (fun c n i=>if (i:Int) = n.1 then n.2 else c i) (fun _=>⟨#[]⟩)
def textG (cl:Nat→ByteArray) (g:GL):ByteArray:=if 0≤g.find then cl g.find.toNat else ⟨#[]⟩
def textsS (cl:Nat→ByteArray) (gs:List GL):Nat→List ByteArray:=gs.foldl (fun t g i=>if (i:Int) = g.part then t i ++ [textG cl g] else t i) (fun _=>[])
theorem callS_snoc (l:List NM) (n:NM):callS (l ++ [n]) = fun (i:Nat)=>if (i:Int) = n.1 then n.2 else callS l i:=by unfold callS;rw [List.foldl_append];rfl
theorem textsS_snoc (cl:Nat→ByteArray) (l:List GL) (g:GL):textsS cl (l ++ [g]) = fun (i:Nat)=>if (i:Int) = g.part then textsS cl l i ++ [textG cl g] else textsS cl l i:=by unfold textsS;rw [List.foldl_append];rfl
theorem snoc_rec {α:Type} {P:List α→Prop} (h0:P []) (hs:∀ l x,P l→P (l ++ [x])) (l:List α):P l:=by
 have:∀ r:List α,P r.reverse:=by
  intro r
  induction r with
  | nil=>exact h0
  | cons x r ih=>rw [List.reverse_cons];exact hs _ _ ih
 have h:=this l.reverse
 rwa [List.reverse_reverse] at h
theorem callS_size (l:List NM) (h:∀ n ∈ l,n.2.size≤maxLen) (i:Nat):(callS l i).size≤maxLen:=by
 have:∀ l:List NM,(∀ n ∈ l,n.2.size≤maxLen)→(callS l i).size≤maxLen:=by
  intro l
  refine snoc_rec (P:=fun l=>(∀ n ∈ l,n.2.size≤maxLen)→(callS l i).size≤maxLen) (fun _=>by show (⟨#[]⟩:ByteArray).size≤maxLen;decide) (fun l x ih hx=>?_) l
  rw [callS_snoc]
  simp only
  split
  ·exact hx x (by simp)
  ·exact ih (fun n hn=>hx n (List.mem_append_left _ hn))
 exact this l h
theorem textG_size (cl:Nat→ByteArray) (h:∀ i,(cl i).size≤maxLen) (g:GL):(textG cl g).size≤maxLen:=by
 unfold textG
 split
 ·exact h _
 ·show (⟨#[]⟩:ByteArray).size≤maxLen;decide
theorem textsS_each (cl:Nat→ByteArray) (h:∀ i,(cl i).size≤maxLen) (gs:List GL) (i:Nat):(textsS cl gs i).length≤gs.length∧∀ t ∈ textsS cl gs i,t.size≤maxLen:=by
 refine snoc_rec (P:=fun gs=>(textsS cl gs i).length≤gs.length∧∀ t ∈ textsS cl gs i,t.size≤maxLen) ⟨Nat.le_refl _,(fun t ht=>by cases ht)⟩ (fun l x ih=>?_) gs
 rw [textsS_snoc,List.length_append]
 simp only
 split
 ·refine ⟨by rw [List.length_append];simp;exact ih.1,fun t ht=>?_⟩
  rcases List.mem_append.1 ht with ht | ht
  ·exact ih.2 t ht
  ·obtain rfl:t = textG cl x:=by simpa using ht
   exact textG_size cl h x
 ·exact ⟨Nat.le_succ_of_le ih.1,ih.2⟩
abbrev AS12:Array Value:=#[.string ⟨#[]⟩,.string ⟨#[]⟩,.string ⟨#[]⟩,.string ⟨#[]⟩,.string ⟨#[]⟩,.string ⟨#[]⟩,.string ⟨#[]⟩,.string ⟨#[]⟩,.string ⟨#[]⟩,.string ⟨#[]⟩,.string ⟨#[]⟩,.string ⟨#[]⟩]
abbrev AL12:Array Value:=#[.slice none 0 0,.slice none 0 0,.slice none 0 0,.slice none 0 0,.slice none 0 0,.slice none 0 0,.slice none 0 0,.slice none 0 0,.slice none 0 0,.slice none 0 0,.slice none 0 0,.slice none 0 0]
def CallAt (C:Nat) (cl:Nat→ByteArray) (W:World):Prop:=∃ cc:Array Value,W.heap[C]? = some (.cells cc 75)∧cc.size = 12∧∀ i,i < 12→cc[i]? = some (.string (cl i))
theorem CallAt.zero {C:Nat} {W:World} (h:W.heap[C]? = some (.cells AS12 75)):CallAt C (callS []) W:=by
 refine ⟨AS12,h,rfl,fun i hi=>?_⟩
 have:i = 0 ∨ i = 1 ∨ i = 2 ∨ i = 3 ∨ i = 4 ∨ i = 5 ∨ i = 6 ∨ i = 7 ∨ i = 8 ∨ i = 9 ∨ i = 10 ∨ i = 11:=by omega
 rcases this with rfl | rfl | rfl | rfl | rfl | rfl | rfl | rfl | rfl | rfl | rfl | rfl <;> rfl
theorem CallAt.move {C:Nat} {cl:Nat→ByteArray} {W W':World} (h:CallAt C cl W) (hm:W'.heap[C]? = W.heap[C]?):CallAt C cl W':=by
 obtain ⟨cc,h1,h2,h3⟩:=h
 exact ⟨cc,hm.trans h1,h2,h3⟩
theorem CallAt.cell {C:Nat} {cl:Nat→ByteArray} {W:World} (h:CallAt C cl W) (m:Nat) (hm:m < 12):W.cell? ⟨C,m,none⟩ = some (.string (cl m))∧W.frozen? ⟨C,m,none⟩ = false:=by
 obtain ⟨cc,h1,h2,h3⟩:=h
 exact ⟨(blk_c h1 m).trans (h3 m hm),blk_f h1 m⟩
theorem CallAt.set {C:Nat} {l:List NM} {n:NM} {W:World} (h:CallAt C (callS l) W) (m:Nat) (hm:m < 12) (hn:n.1 = (m:Int)):CallAt C (callS (l ++ [n])) (W.setCell ⟨C,m,none⟩ (.string n.2)):=by
 obtain ⟨cc,h1,h2,h3⟩:=h
 refine ⟨cc.setIfInBounds m (.string n.2),set_blk h1 m _,by rw [Array.size_setIfInBounds];exact h2,fun i hi=>?_⟩
 rw [callS_snoc]
 simp only
 by_cases e:m = i
 ·subst e
  rw [if_pos (by rw [hn]),Array.getElem?_setIfInBounds_self_of_lt (by omega)]
 ·rw [if_neg (by rw [hn];omega),Array.getElem?_setIfInBounds_ne e]
  exact h3 i hi
def stvB (l:List ByteArray):List Value:=l.map .string
structure TwAt (w:World) (R C T8 B:Nat) (cl:Nat→ByteArray) (tx:Nat→List ByteArray) (v:Nat→Value) (W:World):Prop where
 bel:Below w.heap.size w W
 kR:W.heap[R]? = some (.cells AL12 98)
 kC:CallAt C cl W
 kT:∃ tt:Array Value,W.heap[T8]? = some (.cells tt 98)∧tt.size = 12∧∀ i,i < 12→tt[i]? = some (v i)
 own:∀ i,i < 12→W.ownsRow B 9 1 (v i) (tx i).length (stvB (tx i))
 apart:∀ i j,i < 12→j < 12→i ≠ j→∀ g,(v i).ownBlock = some g→(v j).ownBlock ≠ some g
theorem TwAt.below {w:World} {R C T8 B:Nat} {cl:Nat→ByteArray} {tx:Nat→List ByteArray} {v:Nat→Value} {W W':World} (m:TwAt w R C T8 B cl tx v W) (hs:w.heap.size≤W.heap.size) (hb:Below W.heap.size W W'):TwAt w R C T8 B cl tx v W':=by
 obtain ⟨tt,h1,h2,h3⟩:=m.kT
 obtain ⟨cc,c1,c2,c3⟩:=m.kC
 exact ⟨m.bel.trans (hb.mono hs),blk_on m.kR hb,⟨cc,blk_on c1 hb,c2,c3⟩,⟨tt,blk_on h1 hb,h2,h3⟩,fun i hi=>ownsRow_below (m.own i hi) hb,m.apart⟩
theorem TwAt.push {w:World} {R C T8 B:Nat} {cl:Nat→ByteArray} {gs:List GL} {x:GL} {v:Nat→Value} {W w9:World} {g cc q:Nat} (m:TwAt w R C T8 B cl (textsS cl gs) v W) (hRw:w.heap.size≤R) (hRB:R < B) (hCB:C < B) (hTB:T8 < B) (hRT:R ≠ T8) (hCT:C ≠ T8) (hwT:w.heap.size≤T8) (hBW:B≤W.heap.size) (hq:q < 12) (hx:x.part = (q:Int))
  (hown:w9.ownsRow B 9 1 (.slice (some ⟨g,0,none⟩) ((textsS cl gs q).length + 1) cc) ((textsS cl gs q).length + 1) (stvB (textsS cl gs q) ++ [.string (textG cl x)])) (hg:(W.alloc (.cells #[.string (textG cl x)] 9)).drew.grownBy w9 (v q).ownBlock) (hl:(v q).ownBlock = some g ∨ g = W.heap.size + 1) :
  TwAt w R C T8 B cl (textsS cl (gs ++ [x])) (fun i=>if i = q then .slice (some ⟨g,0,none⟩) ((textsS cl gs q).length + 1) cc else v i) (w9.setCell ⟨T8,q,none⟩ (.slice (some ⟨g,0,none⟩) ((textsS cl gs q).length + 1) cc)):=by
 have hbl:∀ b,b < W.heap.size→(v q).ownBlock ≠ some b→w9.heap[b]? = W.heap[b]?:=fun b hb hne=>by
  rw [hg.block b (by show b < (W.alloc (.cells #[.string (textG cl x)] 9)).heap.size;simp;omega) (fun e=>hne e.symm)]
  exact Below.heap_alloc _ _ _ hb
 have hob:∀ b,(v q).ownBlock = some b→B≤b∧b < W.heap.size:=fun b hb=>(m.own q hq).lt b hb
 have hlow:∀ b,b < B→(v q).ownBlock ≠ some b:=fun b hb e=>by have:=(hob b e).1;omega
 have hbl2:∀ b,b ≠ T8→b < W.heap.size→(v q).ownBlock ≠ some b→(w9.setCell ⟨T8,q,none⟩ (.slice (some ⟨g,0,none⟩) ((textsS cl gs q).length + 1) cc)).heap[b]? = W.heap[b]?:=fun b h1 h2 h3=>by rw [Below.heap_setCell _ _ _ _ h1];exact hbl b h2 h3
 obtain ⟨tt,t1,t2,t3⟩:=m.kT
 have t9:w9.heap[T8]? = some (.cells tt 98):=(hbl T8 (by omega) (hlow T8 hTB)).trans t1
 have hb9:Below w.heap.size w w9:=by
  have h1:Below w.heap.size w (W.alloc (.cells #[.string (textG cl x)] 9)).drew:=(m.bel.alloc m.bel.size _).drew
  exact h1.grown hg (by show w.heap.size≤(W.alloc (.cells #[.string (textG cl x)] 9)).heap.size;have:=m.bel.size;simp;omega) (fun b hb=>by have:=(hob b hb).1;omega)
 refine ⟨Below.setCell (p:=⟨T8,q,none⟩) hb9 hwT _,(hbl2 R hRT (by omega) (hlow R hRB)).trans m.kR,m.kC.move (hbl2 C hCT (by omega) (hlow C hCB)),⟨_,set_blk t9 q _,by rw [Array.size_setIfInBounds];exact t2,fun i hi=>?_⟩,fun i hi=>?_,fun i j hi hj hne b hb=>?_⟩
 ·by_cases e:q = i
  ·subst e
   simp only [if_true]
   rw [Array.getElem?_setIfInBounds_self_of_lt (by omega)]
  ·rw [if_neg (Ne.symm e),Array.getElem?_setIfInBounds_ne e]
   exact t3 i hi
 ·rw [textsS_snoc]
  by_cases e:i = q
  ·subst e
   simp only [if_true]
   rw [if_pos hx.symm,List.length_append]
   have e2:stvB (textsS cl gs i ++ [textG cl x]) = stvB (textsS cl gs i) ++ [.string (textG cl x)]:=by simp [stvB]
   rw [e2]
   exact owns_move hown (fun b hb=>Below.heap_setCell _ _ _ _ (by have:=(hown.lt b hb).1;show b ≠ T8;omega))
  ·simp only [if_neg e]
   rw [if_neg (by rw [hx];omega)]
   refine owns_move (m.own i hi) (fun b hb=>?_)
   have hlt:=(m.own i hi).lt b hb
   exact hbl2 b (by omega) hlt.2 (m.apart i q hi hq e b hb)
 ·have hgi:∀ k,k < 12→k ≠ q→(v k).ownBlock ≠ some g:=fun k hk hkq hkg=>by
   rcases hl with h | h
   ·exact m.apart k q hk hq hkq g hkg h
   ·have:=((m.own k hk).lt g hkg).2;omega
  by_cases e1:i = q
  ·have e2:j ≠ q:=fun e=>hne (e1.trans e.symm)
   simp only [if_pos e1] at hb
   have hbg:g = b:=by simpa [Value.ownBlock] using hb
   rw [if_neg e2,← hbg]
   exact hgi j hj e2
  ·simp only [if_neg e1] at hb
   by_cases e2:j = q
   ·rw [if_pos e2]
    intro h
    have hbg:g = b:=by simpa [Value.ownBlock] using h
    rw [← hbg] at hb
    exact hgi i hi e1 hb
   ·rw [if_neg e2]
    exact m.apart i j hi hj hne b hb
end Go.Proofs.YtbbfcbodhmeanaaGreatDoor



namespace Go.Proofs.YtbbfcbodhmeanaaGreatDoor
open Go.RowKit
def TextsPost (w:World) (tx:Nat→List ByteArray) (e:Ending) (w':World):Prop :=
 ∃ (tt:Array Value) (v:Nat→Value),e = .returned (.agg tt)∧Below w.heap.size w w'∧tt.size = 12∧(∀ i,i < 12→tt[i]? = some (v i))∧∀ i,i < 12→w'.ownsRow w.heap.size 9 1 (v i) (tx i).length (stvB (tx i))
theorem setCells_at (b t:Nat):∀ (vs:List Value) (o:Nat) (W:World) (c:Array Value),W.heap[b]? = some (.cells c t)→∃ c':Array Value,(W.setCells b o vs).heap[b]? = some (.cells c' t)∧c'.size = c.size∧∀ i,i < c.size→c'[i]? = if o≤i∧i < o + vs.length then vs[i - o]? else c[i]?
 | [],o,W,c,h=>⟨c,h,rfl,fun i _=>by rw [if_neg (by simp only [List.length_nil];omega)]⟩
 | x::vs,o,W,c,h=>by
  obtain ⟨c',h1,h2,h3⟩:=setCells_at b t vs (o + 1) (W.setCell ⟨b,o,none⟩ x) (c.setIfInBounds o x) (set_blk h o x)
  refine ⟨c',h1,by rw [h2,Array.size_setIfInBounds],fun i hi=>?_⟩
  rw [h3 i (by rw [Array.size_setIfInBounds];exact hi),List.length_cons]
  by_cases e:o = i
  ·subst e
   rw [if_neg (by omega),if_pos (by omega),Array.getElem?_setIfInBounds_self_of_lt hi,Nat.sub_self]
   rfl
  ·rw [Array.getElem?_setIfInBounds_ne e]
   by_cases h:o + 1≤i∧i < o + 1 + vs.length
   ·rw [if_pos h,if_pos (by omega),show i - o = (i - (o + 1)) + 1 from by omega,List.getElem?_cons_succ]
   ·rw [if_neg h,if_neg (by omega)]
theorem there12 {W:World} {R t:Nat} {c:Array Value} (h:W.heap[R]? = some (.cells c t)) (hc:c.size = 12):W.there R 0 12:=by
 intro j hj
 refine ⟨?_,blk_f h _⟩
 rw [blk_c h (0 + j),Nat.zero_add,Array.getElem?_eq_getElem (by omega)]
 rfl
theorem filled12 {W:World} {R t:Nat} {c tt:Array Value} (h:W.heap[R]? = some (.cells c t)) (hc:c.size = 12) (ht:tt.size = 12):(W.setCells R 0 tt.toList).heap[R]? = some (.cells tt t):=by
 obtain ⟨c',h1,h2,h3⟩:=setCells_at R t tt.toList 0 W c h
 have:c' = tt:=by
  apply Array.ext
  ·omega
  ·intro i hi hi2
   have:=h3 i (by omega)
   rw [if_pos (by rw [Array.length_toList];omega),Nat.sub_zero,Array.getElem?_toList,Array.getElem?_eq_getElem hi,Array.getElem?_eq_getElem hi2] at this
   exact Option.some.inj this
 rw [h1,this]
theorem take_snoc {α:Type} (l:List α) (k:Nat) (d:α) (h:k < l.length):l.take (k + 1) = l.take k ++ [l.getD k d]:=by
 rw [List.take_add_one,List.getElem?_eq_getElem h,List.getD_eq_getElem?_getD,List.getElem?_eq_getElem h]
 rfl
set_option maxHeartbeats 8000000 in
set_option maxRecDepth 100000 in
theorem texts_any (ga : Option Addr) (gn gc : Nat) (gs : List GL) (na : Option Addr) (nn nc : Nat) (ns : List NM) (en : nn = ns.length) (hg9 : gn ≤ 1000) (hn12 : ∀ n ∈ ns, ∃ m : Nat, m < 12 ∧ n.1 = (m : Int)) (hg12 : ∀ g ∈ gs, (∃ m : Nat, m < 12 ∧ g.part = (m : Int)) ∧ (g.find < 0 ∨ ∃ q : Nat, q < 12 ∧ g.find = (q : Int))) (hnl : NLen ns) (w : World) (hgr : G6 w ga gn gs) (hnr : NmRow w na ns) :
    Calls Tryz.prog 61 #[.slice ga gn gc, .slice na nn nc] w fun e w' => TextsPost w (textsS (callS ns) gs) e w' := by
  have hnm : nn ≤ 9223372036854775807 := by have := hnl.1; unfold maxLen at this; omega
  have HGN : Hid (gs.length = gn) := hgr.1
  have HGR : Hid (∀ W, Below w.heap.size w W → G6 W ga gn gs) := fun W hW => hgr.below hW
  have HNR : Hid (∀ W, Below w.heap.size w W → NmRow W na ns) := fun W hW => hnr.below hW
  have HNN : Hid (nn = ns.length) := en
  have HN12 : Hid (∀ n ∈ ns, ∃ m : Nat, m < 12 ∧ n.1 = (m : Int)) := hn12
  have HG12 : Hid (∀ g ∈ gs, (∃ m : Nat, m < 12 ∧ g.part = (m : Int)) ∧ (g.find < 0 ∨ ∃ q : Nat, q < 12 ∧ g.find = (q : Int))) := hg12
  have HCS : Hid (∀ i, (callS ns i).size ≤ maxLen) := fun i => callS_size ns (fun n hn => (hnl.2 n hn).2.2) i
  obtain ⟨R, hR⟩ : ∃ R, w.heap.size = R := ⟨_, rfl⟩
  have HR : Hid (w.heap.size = R) := hR
  obtain ⟨W1, hW1⟩ : ∃ W, W = (w.alloc (.cells AL12 98)).alloc (.cells AS12 75) := ⟨_, rfl⟩
  have HB1 : Hid (Below w.heap.size w W1) := by unfold Hid; rw [hW1]; exact ((Below.refl _ _).alloc (Nat.le_refl _) _).alloc (by simp) _
  have HK1 : Hid (W1.heap[R]? = some (.cells AL12 98)) := by unfold Hid; rw [hW1, ← hR]; exact blk_on (blk_new w _) ((Below.refl _ _).alloc (Nat.le_refl _) _)
  have HC1 : Hid (W1.heap[R + 1]? = some (.cells AS12 75)) := by
    unfold Hid
    rw [hW1, ← hR]
    have := blk_new (w.alloc (.cells AL12 98)) (.cells AS12 75)
    simpa using this
  have HS1 : Hid (R + 2 ≤ W1.heap.size) := by unfold Hid; rw [hW1, ← hR]; simp
  have HW1 : Hid (W1 = (w.alloc (.cells AL12 98)).alloc (.cells AS12 75)) := hW1
  obtain ⟨C, hC⟩ : ∃ C, R + 1 = C := ⟨_, rfl⟩
  have HC : Hid (R + 1 = C) := hC
  rw [hC] at HC1
  obtain ⟨tx, htx⟩ : ∃ tx, textsS (callS ns) gs = tx := ⟨_, rfl⟩
  have HTX : Hid (textsS (callS ns) gs = tx) := htx
  rw [htx]
  clear hW1 hgr hnr en hn12 hg12 hnl htx
  go_enter Tryz.func61, Tryz.ntmps61
  go_upto_region 2 with fail
  rw [← HW1.out]
  clear HW1 hR hC
  go_wp2_with fail
  go_loopw [14] (fun iv wr => ∃ k : Nat, k ≤ nn ∧ iv = .int .i64 k ∧ Hid (Below w.heap.size w wr) ∧ Hid (R + 2 ≤ wr.heap.size) ∧ Hid (wr.heap[R]? = some (.cells AL12 98)) ∧ Hid (CallAt C (callS (ns.take k)) wr)) (fun iv _ => nn - (intOf iv).toNat)
  case atStart => exact ⟨0, Nat.zero_le _, rfl, HB1, HS1, HK1, CallAt.zero HC1.out⟩
  case round =>
    obtain ⟨k, hk, rfl, HB, HS, HK, HCA⟩ := hrel
    clear HB1 HS1 HK1 HC1
    by_cases hlt : k < nn
    · have hlz : (k : Int) < (nn : Int) := by omega
      have hkl : k < ns.length := by rw [← HNN.out]; exact hlt
      obtain ⟨b, o, hna, hc⟩ := HNR.out wr HB.out (fun e => by rw [e] at hkl; simp at hkl)
      subst hna
      obtain ⟨d0, d1⟩ := hc k hkl
      have HTK : Hid (ns.take (k + 1) = ns.take k ++ [ns.getD k nm0]) := take_snoc ns k nm0 hkl
      obtain ⟨m, hm12, hm⟩ := HN12.out (ns.getD k nm0) (by rw [List.getD_eq_getElem?_getD, List.getElem?_eq_getElem hkl]; exact List.getElem_mem hkl)
      clear hc hkl
      generalize ns.getD k nm0 = x at *
      obtain ⟨x1, s⟩ := x
      simp only at d0 d1 hm
      subst hm
      obtain ⟨Wx, hWx⟩ : ∃ W, W = wr.alloc (.cells #[.int .i64 (m : Int), .string s] 56) := ⟨_, rfl⟩
      have hbx : Below wr.heap.size wr Wx := by rw [hWx]; exact (Below.refl _ _).alloc (Nat.le_refl _) _
      obtain ⟨Y, hY⟩ : ∃ Y, wr.heap.size = Y := ⟨_, rfl⟩
      have kx : Wx.heap[Y]? = some (.cells #[.int .i64 (m : Int), .string s] 56) := by rw [hWx, ← hY]; exact blk_new _ _
      have hCx : CallAt C (callS (ns.take k)) Wx := HCA.out.move (hbx.block C (by have := HS.out; have := HC.out; omega))
      obtain ⟨e1, e2⟩ := hCx.cell m hm12
      have HB2 : Hid (Below w.heap.size w (Wx.setCell ⟨C, m, none⟩ (.string s))) := Below.setCell (p := ⟨C, m, none⟩) (HB.out.trans (hbx.mono HB.out.size)) (show w.heap.size ≤ C by have := HR.out; have := HC.out; omega) _
      have HS2 : Hid (R + 2 ≤ (Wx.setCell ⟨C, m, none⟩ (.string s)).heap.size) := by unfold Hid; have h1 := HS.out; have h2 := hbx.size; simp [World.setCell]; omega
      have HK2 : Hid ((Wx.setCell ⟨C, m, none⟩ (.string s)).heap[R]? = some (.cells AL12 98)) := by unfold Hid; rw [Below.heap_setCell _ _ _ _ (show R ≠ C by have := HC.out; omega)]; exact blk_on HK.out hbx
      have HC2 : Hid (CallAt C (callS (ns.take (k + 1))) (Wx.setCell ⟨C, m, none⟩ (.string s))) := by unfold Hid; rw [HTK.out]; exact hCx.set m hm12 rfl
      have HWX : Hid (Wx = wr.alloc (.cells #[.int .i64 (m : Int), .string s] 56)) := hWx
      have hmi : (m : Int) < 12 := by omega
      have hm0 : (0 : Int) ≤ (m : Int) := by omega
      have z0 : Wx.cell? ⟨Y, 0, none⟩ = some (.int .i64 (m : Int)) := (blk_c kx 0).trans rfl
      have z1 : Wx.cell? ⟨Y, 1, none⟩ = some (.string s) := (blk_c kx 1).trans rfl
      clear hWx hbx kx hCx HB HS HK HCA HTK
      go_upto_region 5 with fail
      rw [← HWX.out]
      clear HWX hY d0 d1
      go_wp2_with fail
      go_roundw
      case rel => exact ⟨k + 1, by omega, by go_num, HB2, HS2, HK2, HC2⟩
      case measure => simp [intOf]; omega
    · have hlz : ¬ (k : Int) < (nn : Int) := by omega
      have hcl : callS (ns.take k) = callS ns := by rw [List.take_of_length_le (by rw [← HNN.out]; omega)]
      rw [hcl] at HCA
      clear hcl
      obtain ⟨cl, hcl⟩ : ∃ cl, callS ns = cl := ⟨_, rfl⟩
      rw [hcl] at HCA HTX HCS
      clear hcl
      obtain ⟨T8, hT8⟩ : ∃ T, wr.heap.size = T := ⟨_, rfl⟩
      obtain ⟨V2, hV2⟩ : ∃ W, W = wr.alloc (.cells AL12 98) := ⟨_, rfl⟩
      have hb2 : Below wr.heap.size wr V2 := by rw [hV2]; exact (Below.refl _ _).alloc (Nat.le_refl _) _
      have hs2 : V2.heap.size = T8 + 1 := by rw [hV2, ← hT8]; simp
      have HTW : Hid (TwAt w R C T8 V2.heap.size cl (textsS cl (gs.take 0)) (fun _ => .slice none 0 0) V2) := by
        refine ⟨HB.out.trans (hb2.mono HB.out.size), blk_on HK.out hb2, HCA.out.move (hb2.block C (by have := HS.out; have := HC.out; omega)), ⟨AL12, by rw [hV2, ← hT8]; exact blk_new _ _, rfl, fun i hi => ?_⟩, fun i _ => World.ownsRow_nil _ _ _ _, fun i j _ _ _ g hg => by cases hg⟩
        have : i = 0 ∨ i = 1 ∨ i = 2 ∨ i = 3 ∨ i = 4 ∨ i = 5 ∨ i = 6 ∨ i = 7 ∨ i = 8 ∨ i = 9 ∨ i = 10 ∨ i = 11 := by omega
        rcases this with rfl | rfl | rfl | rfl | rfl | rfl | rfl | rfl | rfl | rfl | rfl | rfl <;> rfl
      have HV2 : Hid (V2 = wr.alloc (.cells AL12 98)) := hV2
      have HTT : Hid (R + 2 ≤ T8 ∧ V2.heap.size = T8 + 1 ∧ w.heap.size ≤ T8) := ⟨by rw [← hT8]; exact HS.out, hs2, by rw [← hT8]; exact HB.out.size⟩
      clear hV2 hb2 hs2 HB HS HK HCA
      go_upto_region 8 with fail
      rw [← HV2.out]
      clear HV2 hT8
      go_wp2_with fail
      go_loopw [26] (fun iv wy => ∃ (j : Nat) (v : Nat → Value), j ≤ gn ∧ iv = .int .i64 j ∧ Hid (V2.heap.size ≤ wy.heap.size) ∧ Hid (TwAt w R C T8 V2.heap.size cl (textsS cl (gs.take j)) v wy)) (fun iv _ => gn - (intOf iv).toNat)
      case atStart => exact ⟨0, _, Nat.zero_le _, rfl, Nat.le_refl _, HTW⟩
      case round =>
        obtain ⟨j, v, hj, rfl, HVs, HT⟩ := hrel
        clear HTW
        by_cases hlt : j < gn
        · have hlz : (j : Int) < (gn : Int) := by omega
          have hjl : j < gs.length := by rw [HGN.out]; exact hlt
          obtain ⟨b, o, hga, hc⟩ := (HGR.out wr HT.out.bel).2 (by omega)
          subst hga
          obtain ⟨e0, e1, e2, e3, e4, e5⟩ := hc j hlt
          have HTK : Hid (gs.take (j + 1) = gs.take j ++ [gs.getD j gl0]) := take_snoc gs j gl0 hjl
          obtain ⟨⟨m, hm12, hm⟩, hfd⟩ := HG12.out (gs.getD j gl0) (by rw [List.getD_eq_getElem?_getD, List.getElem?_eq_getElem hjl]; exact List.getElem_mem hjl)
          clear hc
          have hlen : (textsS cl (gs.take j) m).length ≤ 1000 := by have h1 := (textsS_each cl HCS.out (gs.take j) m).1; rw [List.length_take] at h1; omega
          generalize gs.getD j gl0 = x at *
          have HXM : Hid (x.part = (m : Int)) := hm
          have HTG : Hid (textG cl x = if 0 ≤ x.find then cl x.find.toNat else ⟨#[]⟩) := rfl
          obtain ⟨TX, hTX⟩ : ∃ T, textG cl x = T := ⟨_, rfl⟩
          have HTXX : Hid (textG cl x = TX) := hTX
          rw [hTX] at HTG
          rw [hm] at e0
          generalize x.fr = fr at *
          generalize x.tt = tb at *
          generalize tx8 x.text = sx at *
          generalize tx8 x.led = lx at *
          obtain ⟨fd, hfdd⟩ : ∃ f, x.find = f := ⟨_, rfl⟩
          rw [hfdd] at e5 hfd HTG
          clear hjl hm hTX hfdd
          obtain ⟨Wx, hWx⟩ : ∃ W, W = wr.alloc (.cells #[.int .i64 (m : Int), .int .i64 fr, .int .i64 tb, .string sx, .string lx, .int .i64 fd] 42) := ⟨_, rfl⟩
          have hbx : Below wr.heap.size wr Wx := by rw [hWx]; exact (Below.refl _ _).alloc (Nat.le_refl _) _
          obtain ⟨Y, hY⟩ : ∃ Y, wr.heap.size = Y := ⟨_, rfl⟩
          have kx : Wx.heap[Y]? = some (.cells #[.int .i64 (m : Int), .int .i64 fr, .int .i64 tb, .string sx, .string lx, .int .i64 fd] 42) := by rw [hWx, ← hY]; exact blk_new _ _
          have hTx := HT.out.below HT.out.bel.size hbx
          obtain ⟨tt, ht1, ht2, ht3⟩ := hTx.kT
          have hom := hTx.own m hm12
          obtain ⟨qv, cv, hvm⟩ := owned_slice hom
          have HKX : Hid (Wx.heap[Y]? = some (.cells #[.int .i64 (m : Int), .int .i64 fr, .int .i64 tb, .string sx, .string lx, .int .i64 fd] 42)) := kx
          have HTXW : Hid (TwAt w R C T8 V2.heap.size cl (textsS cl (gs.take j)) v Wx) := hTx
          have HT1 : Hid (Wx.heap[T8]? = some (.cells tt 98)) := ht1
          have HT3 : Hid (tt[m]? = some (.slice qv (textsS cl (gs.take j) m).length cv)) := by unfold Hid; rw [ht3 m hm12, hvm]
          have HOM : Hid (Wx.ownsRow V2.heap.size 9 1 (.slice qv (textsS cl (gs.take j) m).length cv) (textsS cl (gs.take j) m).length (stvB (textsS cl (gs.take j) m))) := by unfold Hid; rw [← hvm]; exact hom
          have HVM : Hid (v m = .slice qv (textsS cl (gs.take j) m).length cv) := hvm
          have HVX : Hid (V2.heap.size ≤ Wx.heap.size) := Nat.le_trans HVs.out hbx.size
          have hYV : V2.heap.size ≤ Y := by rw [← hY]; exact HVs.out
          have HYT : Hid (Y ≠ T8) := by unfold Hid; have := HTT.out.2.1; omega
          have HYO : Hid ((Value.slice qv (textsS cl (gs.take j) m).length cv).ownBlock ≠ some Y) := fun e => by
            have h1 := HT.out.own m hm12
            rw [hvm] at h1
            have := (h1.lt Y e).2
            omega
          have HTO : Hid ((Value.slice qv (textsS cl (gs.take j) m).length cv).ownBlock ≠ some T8) := fun e => by
            have := (HOM.out.lt T8 e).1
            have := HTT.out.2.1
            omega
          have HCC : Hid (CallAt C cl Wx) := hTx.kC
          have HNXT : Hid (∀ (g cc : Nat) (w9 : World), w9.ownsRow V2.heap.size 9 1 (.slice (some ⟨g, 0, none⟩) ((textsS cl (gs.take j) m).length + 1) cc) ((textsS cl (gs.take j) m).length + 1) (stvB (textsS cl (gs.take j) m) ++ [.string TX]) → (Wx.alloc (.cells #[.string TX] 9)).drew.grownBy w9 (Value.slice qv (textsS cl (gs.take j) m).length cv).ownBlock → ((Value.slice qv (textsS cl (gs.take j) m).length cv).ownBlock = some g ∨ g = Wx.heap.size + 1) → Hid (V2.heap.size ≤ (w9.setCell ⟨T8, m, none⟩ (.slice (some ⟨g, 0, none⟩) ((textsS cl (gs.take j) m).length + 1) cc)).heap.size) ∧ ∃ v', Hid (TwAt w R C T8 V2.heap.size cl (textsS cl (gs.take (j + 1))) v' (w9.setCell ⟨T8, m, none⟩ (.slice (some ⟨g, 0, none⟩) ((textsS cl (gs.take j) m).length + 1) cc)))) := fun g cc w9 h1 h2 h3 => by
            have hs9 : Wx.heap.size + 1 ≤ w9.heap.size := by have h := h2.size; have e : (Wx.alloc (.cells #[.string TX] 9)).drew.heap.size = Wx.heap.size + 1 := by show (Wx.alloc (.cells #[.string TX] 9)).heap.size = _; simp
                                                             omega
            refine ⟨by unfold Hid; have h := HVX.out; simp [World.setCell]; omega, (fun i => if i = m then .slice (some ⟨g, 0, none⟩) ((textsS cl (gs.take j) m).length + 1) cc else v i), ?_⟩
            unfold Hid
            rw [HTK.out]
            have hc := HTT.out
            have hr := HR.out
            have hcc := HC.out
            exact HTXW.out.push (by omega) (by omega) (by omega) (by omega) (by omega) (by omega) hc.2.2 HVX.out hm12 HXM.out (by rw [HTXX.out]; exact h1) (by rw [HTXX.out, HVM.out]; exact h2) (by rw [HVM.out]; exact h3)
          have HWX : Hid (Wx = wr.alloc (.cells #[.int .i64 (m : Int), .int .i64 fr, .int .i64 tb, .string sx, .string lx, .int .i64 fd] 42)) := hWx
          have z5 : Wx.cell? ⟨Y, 5, none⟩ = some (.int .i64 fd) := (blk_c kx 5).trans rfl
          clear hWx hbx kx hTx ht1 ht2 ht3 hom hvm HT HTK HVM HTXX HXM hYV
          generalize hLN : (textsS cl (gs.take j) m).length = ln at *
          generalize stvB (textsS cl (gs.take j) m) = XS at *
          clear hLN
          go_upto_region 11 with fail
          rw [← HWX.out]
          clear HWX hY e0 e1 e2 e3 e4 e5
          rcases hfd with hneg | ⟨q, hq12, rfl⟩
          · have hf0 : decide (0 ≤ fd) = false := by simp; omega
            have hTe : TX = ⟨#[]⟩ := by rw [HTG.out, if_neg (by omega)]
            subst hTe
            clear HTG
            go_upto_region 14 with fail
            refine ltR14 Wx Y T8 V2.heap.size m ln cv hm12 qv _ _ _ _ _ _ tt XS HKX.out HT1.out HT3.out HOM.out HVX.out hlen HYT.out HYO.out HTO.out _ _ _ _ _ _ _ _ _ _ _ _ _ _ _ _ _ _ _ _ _ _ _ _ _ _ _ _ _ _ _ _ _ _ _ _ _ _ _ _ _ _ _ _ _ _ _ ?_
            intro r37 r38 r39 r40 r41 r42 r43 r44 r45 r46 g cc w9 h1 h2 h3 h4
            obtain ⟨HV9, v', HT9⟩ := HNXT.out g cc w9 h1 h2 h3
            clear h1 h2 h3 h4 HNXT z5
            go_wp2_with fail
            go_roundw
            case rel => exact ⟨j + 1, v', by omega, by go_num, HV9, HT9⟩
            case measure => simp [intOf]; omega
          · have hf0 : (0 : Int) ≤ (q : Int) := by omega
            have hq1 : (q : Int) < 12 := by omega
            have hTe : TX = cl q := by rw [HTG.out, if_pos hf0, Int.toNat_natCast]
            obtain ⟨cq, _⟩ := HCC.out.cell q hq12
            rw [← hTe] at cq
            clear HTG hTe
            go_upto_region 14 with fail
            refine ltR14 Wx Y T8 V2.heap.size m ln cv hm12 qv TX _ _ _ _ _ tt XS HKX.out HT1.out HT3.out HOM.out HVX.out hlen HYT.out HYO.out HTO.out _ _ _ _ _ _ _ _ _ _ _ _ _ _ _ _ _ _ _ _ _ _ _ _ _ _ _ _ _ _ _ _ _ _ _ _ _ _ _ _ _ _ _ _ _ _ _ ?_
            intro r37 r38 r39 r40 r41 r42 r43 r44 r45 r46 g cc w9 h1 h2 h3 h4
            obtain ⟨HV9, v', HT9⟩ := HNXT.out g cc w9 h1 h2 h3
            clear h1 h2 h3 h4 HNXT z5 cq
            go_wp2_with fail
            go_roundw
            case rel => exact ⟨j + 1, v', by omega, by go_num, HV9, HT9⟩
            case measure => simp [intOf]; omega
        · have hlz : ¬ (j : Int) < (gn : Int) := by omega
          have htk : gs.take j = gs := List.take_of_length_le (by rw [HGN.out]; omega)
          rw [htk, HTX.out] at HT
          obtain ⟨tt, ht1, ht2, ht3⟩ := HT.out.kT
          have HT1 : Hid (wr.heap[T8]? = some (.cells tt 98)) := ht1
          have HTH : Hid (wr.there R 0 12) := there12 HT.out.kR rfl
          have HRES : Hid ((wr.setCells R 0 tt.toList).heap[R]? = some (.cells tt 98)) := filled12 HT.out.kR rfl ht2
          have HALL : Hid (tt.all (·.oneCell') = true) := by
            unfold Hid
            rw [Array.all_eq_true]
            intro i hi
            have h1 := ht3 i (by omega)
            rw [Array.getElem?_eq_getElem hi] at h1
            have h2 := HT.out.own i (by omega)
            obtain ⟨qa, ca, hq⟩ := owned_slice h2
            rw [hq] at h1
            rw [Option.some.inj h1]
            rfl
          have HPOST : Hid (TextsPost w tx (.returned (.agg tt)) (wr.setCells R 0 tt.toList)) := by
            have hc := HTT.out
            refine ⟨tt, v, rfl, setCells_below (W := wr) (by have := HR.out; omega) _ _ _ HT.out.bel, ht2, ht3, fun i hi => ?_⟩
            refine owns_weaken (owns_move (HT.out.own i hi) (fun g hg => setCells_block R _ _ _ g ?_)) (by have := HC.out; omega)
            have := ((HT.out.own i hi).lt g hg).1
            omega
          have HSZ : Hid (tt.size = 12) := ht2
          clear HT htk ht1 ht2 ht3 HTX
          have HINF : Hid ((Tryz.prog.info? 98).map (·.size) = some tt.size) := by unfold Hid; rw [HSZ.out]; kernel_rfl
          have HTH2 : Hid (wr.there R 0 tt.size) := by unfold Hid; rw [HSZ.out]; exact HTH.out
          clear HTH
          go_upto_region 16 with fail
          go_wp2_with (first
            | (refine wpList_load_row rfl 98 (.tmp 8) rfl T8 rfl 98 tt (0, 0) _ HT1.out Tryz.underlying98 rfl HINF.out ?_)
            | (refine wpList_store_mid rfl 98 (.tmp 4) (.tmp 48) rfl R 0 tt rfl rfl HTH2.out HINF.out HALL.out ?_))
          refine bodyPost_ret (v := .agg tt) ?_ rfl HPOST.out
          exact results_cell_row rfl _ _ R 98 tt (0, 0) _ rfl HRES.out Tryz.underlying98 rfl HINF.out
end Go.Proofs.YtbbfcbodhmeanaaGreatDoor



import Derived.Test.YtbbfcbodhmeanaaGreatDoorXrewritesays49
import Derived.Deep.DeepCutAuto
namespace Go.Proofs.YtbbfcbodhmeanaaGreatDoor
open Go.RowKit
def LS (w:World) (UA:Array Value) (W:World) (ls:List ByteArray):Prop :=
 Below w.heap.size w W∧W.heap[w.heap.size]? = some (.cells UA 85)∧w.heap.size + 1 < W.heap.size∧W.frozen? ⟨w.heap.size + 1,0,none⟩ = false ∧
 ∃ q n c,W.cell? ⟨w.heap.size + 1,0,none⟩ = some (.slice q n c)∧n = ls.length∧W.ownsRow (w.heap.size + 2) 9 1 (.slice q n c) n (strv ls)
theorem LS.alloc {w W:World} {UA:Array Value} {ls:List ByteArray} (h:LS w UA W ls) (o:Obj):LS w UA (W.alloc o) ls:=by
 obtain ⟨h1,h2,h3,h4,q,n,c,h5,h6,h7⟩:=h
 have hb:Below W.heap.size W (W.alloc o):=(Below.refl _ _).alloc (Nat.le_refl _) _
 exact ⟨h1.alloc h1.size _,kept_alloc h2,by simp;omega,(hb.frozen (p:=⟨w.heap.size + 1,0,none⟩) h3).trans h4,q,n,c,(hb.cell (p:=⟨w.heap.size + 1,0,none⟩) h3).trans h5,h6,h7.alloc _⟩
set_option maxHeartbeats 1000000 in
theorem radd_no (gl:Nat) (sl:Value) (W:World) :
  Calls Tryz.prog 106 #[.bool false,sl,.pointer (some ⟨gl,0,none⟩)] W fun e w'=>e = .returned (.tuple #[])∧w' = W:=by
 go_enter Tryz.func106,Tryz.ntmps106
 go_wp2
 go_end0
 exact ⟨rfl,rfl⟩
set_option maxHeartbeats 2000000 in
set_option maxRecDepth 100000 in
theorem radd_yes (w W:World) (UA:Array Value) (ls xs:List ByteArray) (h:LS w UA W ls) (p:Addr) (m c:Nat) (hm:xs.length = m) (hls:ls.length≤100) (hms:m≤10)
  (hx:∀ j u,(strv xs)[j]? = some u→W.cell? (p.add j) = some u) :
  Calls Tryz.prog 106 #[.bool true,.slice (some p) m c,.pointer (some ⟨w.heap.size + 1,0,none⟩)] W fun e w'=>e = .returned (.tuple #[])∧LS w UA w' (ls ++ xs):=by
 obtain ⟨i0,hi,hz0,hz1,hz2⟩:=info_parts info_str
 obtain ⟨h1,h2,h3,h4,q,n,c1,h5,h6,h7⟩:=h
 have HX:Hid (∀ j u,(strv xs)[j]? = some u→W.cell? (p.add j) = some u):=hx
 have H2:Hid (W.heap[w.heap.size]? = some (.cells UA 85)):=h2
 have H6:Hid (n = ls.length):=h6
 have HM:Hid (xs.length = m):=hm
 have hnl:n≤100:=by omega
 clear hx h2 h6 hm hls
 go_enter Tryz.func106,Tryz.ntmps106
 go_wp2_with (at_builtin;refine wpList_append_own _ rfl (.tmp 6) (.tmp 7) 26 rfl (w.heap.size + 2) 9 i0 (.string ⟨#[]⟩) 1 16 Tryz.underlying26 hi hz0 hz1 hz2 rfl (by decide) _ _ _ rfl h7 p m c (strv xs) rfl ?c0 HX.out ?c2 ?c3 ?c4 ?c5 ?_)
 case c0=>simp [strv];exact HM.out
 case c2 =>
  intro u hu
  unfold strv at hu
  rw [List.mem_map] at hu
  obtain ⟨y,_,rfl⟩:=hu
  rfl
 case c3=>unfold maxLen;omega
 case c4=>omega
 case c5=>omega
 intro v9 w9 hown9 hg9 _
 have hb9:Below (w.heap.size + 2) W w9:=(Below.refl _ _).grown hg9 (by omega) (fun j hj=>(h7.lt j hj).1)
 have hc9:=(hb9.cell (p:=⟨w.heap.size + 1,0,none⟩) (by show w.heap.size + 1 < w.heap.size + 2;omega)).trans h5
 have hf9:=(hb9.frozen (p:=⟨w.heap.size + 1,0,none⟩) (by show w.heap.size + 1 < w.heap.size + 2;omega)).trans h4
 obtain ⟨q9,c9,rfl⟩:=owned_slU hown9
 have hs9:=hb9.size
 have HO:Hid ((w9.setCell ⟨w.heap.size + 1,0,none⟩ (.slice q9 (n + m) c9)).ownsRow (w.heap.size + 2) 9 1 (.slice q9 (n + m) c9) (n + m) (strv (ls ++ xs))):=by
  unfold Hid
  rw [show strv (ls ++ xs) = strv ls ++ strv xs from by simp [strv]]
  exact ownsRow_setCell_below hown9 (by show w.heap.size + 1 < w.heap.size + 2;omega) _
 have hL:LS w UA (w9.setCell ⟨w.heap.size + 1,0,none⟩ (.slice q9 (n + m) c9)) (ls ++ xs):=by
  refine ⟨?_,?_,?_,?_,q9,n + m,c9,World.cell?_setCell_same _ _ _ hc9,?_,HO.out⟩
  ·exact (h1.trans (hb9.mono (by omega))).setCell (Nat.le_succ _) _
  ·rw [Below.heap_setCell _ _ _ _ (by simp),hb9.block _ (by omega)];exact H2.out
  ·show w.heap.size + 1 < (w9.heap.modify _ _).size
   rw [Array.size_modify];omega
  ·rw [World.frozen?_setCell];exact hf9
  ·rw [List.length_append,H6.out,HM.out]
 clear hown9 hg9 HO h5 h7 h4
 go_wp2
 go_end0
 exact ⟨rfl,hL⟩
theorem radd_any (ok:Bool) (w W:World) (UA:Array Value) (ls xs:List ByteArray) (h:LS w UA W ls) (p:Addr) (m c:Nat) (hm:xs.length = m) (hls:ls.length≤100) (hms:m≤10)
  (hx:∀ j u,(strv xs)[j]? = some u→W.cell? (p.add j) = some u) :
  Calls Tryz.prog 106 #[.bool ok,.slice (some p) m c,.pointer (some ⟨w.heap.size + 1,0,none⟩)] W fun e w'=>e = .returned (.tuple #[])∧LS w UA w' (if ok then ls ++ xs else ls):=by
 cases ok with
 | true=>exact radd_yes w W UA ls xs h p m c hm hls hms hx
 | false =>
  refine (radd_no _ _ W).mono ?_
  rintro e w' ⟨rfl,rfl⟩
  exact ⟨rfl,h⟩
theorem len_if (b:Bool) (ls xs:List ByteArray):(if b then ls ++ xs else ls).length≤ls.length + xs.length:=by cases b <;> simp
theorem flat_if (b:Bool) (ls xs:List ByteArray):(lst (if b then ls ++ xs else ls)).flatten = (lst ls).flatten ++ opt b (lst xs).flatten:=by cases b <;> simp [lst,opt]
theorem cell_twU (w:World) (v v':Value) (t:TypeId) (b:Nat) (hb:b = w.heap.size):∀ j x,[v,v'][j]? = some x→(w.alloc (.cells #[v,v'] t)).cell? ((⟨b,0,none⟩:Addr).add j) = some x:=by
 subst hb
 exact cell_two w v v' t
theorem join_flat (xs:List (List UInt8)):Lib.join xs [] = xs.flatten:=by
 cases xs with
 | nil=>rfl
 | cons a t =>
  rw [Lib.join_cons]
  show a ++ (t.map ([] ++ ·)).flatten = a ++ t.flatten
  simp
theorem LS.cells {w W:World} {ls:List ByteArray} {v0 v1 v2 v3 v4 v5 v6 v7:Value} (h:LS w #[v0,v1,v2,v3,v4,v5,v6,v7] W ls) :
  W.cell? ⟨w.heap.size,0,none⟩ = some v0∧W.cell? ⟨w.heap.size,1,none⟩ = some v1∧W.cell? ⟨w.heap.size,2,none⟩ = some v2∧W.cell? ⟨w.heap.size,3,none⟩ = some v3∧W.cell? ⟨w.heap.size,4,none⟩ = some v4∧W.cell? ⟨w.heap.size,5,none⟩ = some v5∧W.cell? ⟨w.heap.size,6,none⟩ = some v6∧W.cell? ⟨w.heap.size,7,none⟩ = some v7∧∀ i,W.frozen? ⟨w.heap.size,i,none⟩ = false:=cells_8 h.2.1
set_option maxHeartbeats 4000000 in
set_option maxRecDepth 100000 in
theorem rtext_walk (us uh up uq uf T:ByteArray) (uhh uhq uhf:Bool) (w:World)
  (hT:Hid (T.data.toList = (lst (if uhf then (if uhq then ((if uhh then (if (!us.toList.isEmpty) then [] ++ [us,⟨#[58]⟩] else []) ++ [⟨#[47,47]⟩,uh] else (if (!us.toList.isEmpty) then [] ++ [us,⟨#[58]⟩] else [])) ++ [up]) ++ [⟨#[63]⟩,uq] else ((if uhh then (if (!us.toList.isEmpty) then [] ++ [us,⟨#[58]⟩] else []) ++ [⟨#[47,47]⟩,uh] else (if (!us.toList.isEmpty) then [] ++ [us,⟨#[58]⟩] else [])) ++ [up])) ++ [⟨#[35]⟩,uf] else (if uhq then ((if uhh then (if (!us.toList.isEmpty) then [] ++ [us,⟨#[58]⟩] else []) ++ [⟨#[47,47]⟩,uh] else (if (!us.toList.isEmpty) then [] ++ [us,⟨#[58]⟩] else [])) ++ [up]) ++ [⟨#[63]⟩,uq] else ((if uhh then (if (!us.toList.isEmpty) then [] ++ [us,⟨#[58]⟩] else []) ++ [⟨#[47,47]⟩,uh] else (if (!us.toList.isEmpty) then [] ++ [us,⟨#[58]⟩] else [])) ++ [up])))).flatten))
  (hTs:T.size≤1000) :
  Calls Tryz.prog 55 #[.agg #[.string us,.bool uhh,.string uh,.string up,.bool uhq,.string uq,.bool uhf,.string uf]] w fun e w'=>e = .returned (.string T)∧Below w.heap.size w w':=by
 obtain ⟨W0,hW0⟩:∃ W,W = (w.alloc (.cells #[.string us,.bool uhh,.string uh,.string up,.bool uhq,.string uq,.bool uhf,.string uf] 85)).alloc (.cells #[.slice none 0 0] 26):=⟨_,rfl⟩
 have hs0:W0.heap.size = w.heap.size + 1 + 1:=by rw [hW0];simp
 have L0:LS w #[.string us,.bool uhh,.string uh,.string up,.bool uhq,.string uq,.bool uhf,.string uf] W0 []:=by
  have hh:W0.heap[w.heap.size + 1]? = some (.cells #[.slice none 0 0] 26):=by
   rw [hW0]
   show ((w.heap.push _).push _)[w.heap.size + 1]? = _
   rw [Array.getElem?_push,if_pos (by simp)]
  refine ⟨?_,?_,by omega,blk_frozen hh 0,none,0,0,blk_cell hh 0,rfl,World.ownsRow_nil _ _ _ _⟩
  ·rw [hW0];exact ((Below.refl _ _).alloc (Nat.le_refl _) _).alloc (by simp) _
  ·rw [hW0];exact kept_alloc (by show (w.heap.push _)[w.heap.size]? = _;simp)
 go_enter Tryz.func55,Tryz.ntmps55
 go_wp2_with fail
 rw [← hW0]
 refine (radd_any (!us.toList.isEmpty) w _ _ [] [us,⟨#[58]⟩] (L0.alloc _) ⟨w.heap.size + 1 + 1,0,none⟩ 2 2 rfl (by decide) (by decide) (cell_twU _ _ _ _ _ hs0.symm)).mono ?_
 rintro e w1 ⟨rfl,L1⟩
 clear L0 hs0 hW0
 have n1:=len_if (!us.toList.isEmpty) [] [us,⟨#[58]⟩]
 generalize (if (!us.toList.isEmpty) = true then [] ++ [us,⟨#[58]⟩] else []) = l1 at *
 simp only [List.length_cons,List.length_nil] at n1
 obtain ⟨c0,c1,c2,c3,c4,c5,c6,c7,cf⟩:=L1.cells
 go_wp2_with fail
 refine (radd_any uhh w _ _ l1 [⟨#[47,47]⟩,uh] (L1.alloc _) ⟨w1.heap.size,0,none⟩ 2 2 rfl (by omega) (by decide) (cell_twU _ _ _ _ _ rfl)).mono ?_
 rintro e w2 ⟨rfl,L2⟩
 clear L1 c0 c1 c2 c3 c4 c5 c6 c7 cf
 have n2:=len_if uhh l1 [⟨#[47,47]⟩,uh]
 generalize (if uhh = true then l1 ++ [⟨#[47,47]⟩,uh] else l1) = l2 at *
 simp only [List.length_cons,List.length_nil] at n2
 obtain ⟨c0,c1,c2,c3,c4,c5,c6,c7,cf⟩:=L2.cells
 go_wp2_with fail
 refine (radd_any true w _ _ l2 [up] (L2.alloc _) ⟨w2.heap.size,0,none⟩ 1 1 rfl (by omega) (by decide) (cell_loU _ _ _ _ rfl)).mono ?_
 rintro e w3 ⟨rfl,L3⟩
 rw [if_pos rfl] at L3
 clear L2 c0 c1 c2 c3 c4 c5 c6 c7 cf
 have n3:(l2 ++ [up]).length = l2.length + 1:=by simp
 generalize l2 ++ [up] = l3 at *
 obtain ⟨c0,c1,c2,c3,c4,c5,c6,c7,cf⟩:=L3.cells
 go_wp2_with fail
 refine (radd_any uhq w _ _ l3 [⟨#[63]⟩,uq] (L3.alloc _) ⟨w3.heap.size,0,none⟩ 2 2 rfl (by omega) (by decide) (cell_twU _ _ _ _ _ rfl)).mono ?_
 rintro e w4 ⟨rfl,L4⟩
 clear L3 c0 c1 c2 c3 c4 c5 c6 c7 cf
 have n4:=len_if uhq l3 [⟨#[63]⟩,uq]
 have g4:1≤(if uhq = true then l3 ++ [⟨#[63]⟩,uq] else l3).length:=by cases uhq <;> simp <;> omega
 generalize (if uhq = true then l3 ++ [⟨#[63]⟩,uq] else l3) = l4 at *
 simp only [List.length_cons,List.length_nil] at n4
 obtain ⟨c0,c1,c2,c3,c4,c5,c6,c7,cf⟩:=L4.cells
 go_wp2_with fail
 refine (radd_any uhf w _ _ l4 [⟨#[35]⟩,uf] (L4.alloc _) ⟨w4.heap.size,0,none⟩ 2 2 rfl (by omega) (by decide) (cell_twU _ _ _ _ _ rfl)).mono ?_
 rintro e w5 ⟨rfl,L5⟩
 clear L4 c0 c1 c2 c3 c4 c5 c6 c7 cf
 have n5:=len_if uhf l4 [⟨#[35]⟩,uf]
 have g5:1≤(if uhf = true then l4 ++ [⟨#[35]⟩,uf] else l4).length:=by cases uhf <;> simp <;> omega
 generalize (if uhf = true then l4 ++ [⟨#[35]⟩,uf] else l4) = l5 at *
 simp only [List.length_cons,List.length_nil] at n5
 obtain ⟨hb5,_,_,_,q,n,c,hcl,hn,hown⟩:=L5
 obtain ⟨n',rfl⟩:∃ n',n = n' + 1:=⟨n - 1,by omega⟩
 obtain ⟨g,rfl,hg1,hg2⟩:=owned_some hown
 have hjr:Lib.join (l5.map (·.data.toList)) (ByteArray.mk #[]).data.toList = T.data.toList:=by
  rw [hT.out];exact join_flat _
 have CJ:Hid (Calls Tryz.prog 107 #[.slice (some ⟨g,0,none⟩) (n' + 1) c,.string ⟨#[]⟩] w5 fun e w'=>e = .returned (.string T)∧Below w5.heap.size w5 w'):=by
  have:=Tryz.strings_Join g 0 c l5 ⟨#[]⟩ w5 (fun j y hy=>by
   have hj:j < l5.length:=(List.getElem?_eq_some_iff.1 hy).1
   rw [Nat.zero_add,hown.cellAt j (by omega)]
   simp [strv,hy]) hg1 (by omega) (by omega) (by rw [hjr,← Lib.size_eq];omega)
  have eT:(⟨T.data.toList.toArray⟩:ByteArray) = T:=rfl
  rw [← hn,hjr,eT] at this
  exact this
 clear hown hjr hT hn
 go_wp2_with fail
 refine CJ.out.mono ?_
 rintro e w6 ⟨rfl,hb6⟩
 have hfin:Below w.heap.size w w6:=hb5.trans (hb6.mono hb5.size)
 clear CJ hb6 hb5 hcl hg1 hg2 n5 g5 n4 g4 n3 n2 n1 hTs
 go_wp2_with fail
 go_ret
 exact ⟨rfl,hfin⟩
theorem rtext_any (u:UV) (hs:u.short 120) (T:ByteArray) (hT:T.data.toList = textU u.l) (w:World) :
  Calls Tryz.prog 55 #[u.v] w fun e w'=>e = .returned (.string T)∧Below w.heap.size w w':=by
 have hl:=text_short u hs
 obtain ⟨us,uhh,uh,up,uhq,uq,uhf,uf⟩:=u
 refine rtext_walk us uh up uq uf T uhh uhq uhf w ?_ (by rw [Lib.size_eq,hT];exact hl)
 unfold Hid
 rw [hT,flat_if,flat_if]
 rw [show ∀ a b:List ByteArray,(lst (a ++ b)).flatten = (lst a).flatten ++ (lst b).flatten from fun a b=>by simp [lst],flat_if,flat_if]
 rw [ByteArray.toList_eq]
 unfold textU UV.l
 simp [lst,List.append_assoc]
end Go.Proofs.YtbbfcbodhmeanaaGreatDoor



namespace Go.Proofs.YtbbfcbodhmeanaaGreatDoor
open Go.RowKit
set_option maxHeartbeats 4000000 in
set_option maxRecDepth 100000 in
theorem rchk_walk (us uh up uq uf T P0:ByteArray) (uhh uhq uhf:Bool) (b0 b1 b2 b3 b4 bn p1 p2 cc eh eq ef eu es:Bool) (n:Nat) (hm:us.size≤maxLen∧uh.size≤maxLen∧up.size≤maxLen∧uq.size≤maxLen∧uf.size≤maxLen) (w:World) (R:Nat)
  (hlong:(120 < us.size ∨ 120 < uh.size ∨ 120 < up.size ∨ 120 < uq.size ∨ 120 < uf.size)→R = 2)
  (hshort:(us.size≤120∧uh.size≤120∧up.size≤120∧uq.size≤120∧uf.size≤120)→(R = if (b0 && (b1 && (b2 && (b3 && b4)))) = false then 1 else if bn = true then 4 else if (if uhh then !eu && !p1 else p2 || (es && cc)) = true then 4 else if 120 < T.size then 2 else 0)∧T.size≤1000∧bn = ((!eh && !uhh) || (!eq && !uhq) || (!ef && !uhf))∧eh = uh.data.toList.isEmpty∧eq = uq.data.toList.isEmpty∧ef = uf.data.toList.isEmpty∧eu = up.data.toList.isEmpty∧es = us.data.toList.isEmpty
   ∧ (∀ W,Calls Tryz.prog 101 #[.string us] W fun e w'=>e = .returned (.bool b0)∧Below W.heap.size W w')
   ∧ (∀ W,Calls Tryz.prog 88 #[.string uh,.int .u8 33,.int .u8 126,.string ⟨#[34,60,62,92,94,96,123,124,125,47,63,35,65,66,67,68,69,70,71,72,73,74,75,76,77,78,79,80,81,82,83,84,85,86,87,88,89,90]⟩] W fun e w'=>e = .returned (.bool b1)∧w' = W)
   ∧ (∀ W,Calls Tryz.prog 88 #[.string up,.int .u8 33,.int .u8 126,.string ⟨#[34,60,62,92,94,96,123,124,125,63,35]⟩] W fun e w'=>e = .returned (.bool b2)∧w' = W)
   ∧ (∀ W,Calls Tryz.prog 88 #[.string uq,.int .u8 33,.int .u8 126,.string ⟨#[34,60,62,92,94,96,123,124,125,35]⟩] W fun e w'=>e = .returned (.bool b3)∧w' = W)
   ∧ (∀ W,Calls Tryz.prog 88 #[.string uf,.int .u8 33,.int .u8 126,.string ⟨#[34,60,62,92,94,96,123,124,125,35]⟩] W fun e w'=>e = .returned (.bool b4)∧w' = W)
   ∧ (∀ W,Calls Tryz.prog 59 #[.string up,.string ⟨#[47]⟩] W fun e w'=>e = .returned (.bool p1)∧w' = W)
   ∧ (∀ W,Calls Tryz.prog 59 #[.string up,.string ⟨#[47,47]⟩] W fun e w'=>e = .returned (.bool p2)∧w' = W)
   ∧ (∀ W,Below w.heap.size w W→Calls Tryz.prog 57 #[.string up,.string ⟨#[47]⟩] W fun e w'=>e = .returned (.slice (some ⟨W.heap.size,0,none⟩) (n + 1) (n + 1))∧Below W.heap.size W w'∧w'.cell? ⟨W.heap.size,0,none⟩ = some (.string P0)∧w'.frozen? ⟨W.heap.size,0,none⟩ = false)
   ∧ (∀ W,Calls Tryz.prog 111 #[.string P0,.string ⟨#[58]⟩] W fun e w'=>e = .returned (.bool cc)∧w' = W)
   ∧ (∀ W,Calls Tryz.prog 55 #[.agg #[.string us,.bool uhh,.string uh,.string up,.bool uhq,.string uq,.bool uhf,.string uf]] W fun e w'=>e = .returned (.string T)∧Below W.heap.size W w')) :
  Calls Tryz.prog 102 #[.agg #[.string us,.bool uhh,.string uh,.string up,.bool uhq,.string uq,.bool uhf,.string uf]] w fun e w'=>e = .returned (.int .i64 (R:Int))∧Below w.heap.size w w':=by
 unfold maxLen at hm
 obtain ⟨m0,m1,m2,m3,m4⟩:=hm
 have HL:Hid ((120 < us.size ∨ 120 < uh.size ∨ 120 < up.size ∨ 120 < uq.size ∨ 120 < uf.size)→R = 2):=hlong
 have HSH:Hid ((us.size≤120∧uh.size≤120∧up.size≤120∧uq.size≤120∧uf.size≤120)→_):=hshort
 clear hlong hshort
 obtain ⟨w9,hw9⟩:∃ W,W = (w.alloc (.cells #[.string us,.bool uhh,.string uh,.string up,.bool uhq,.string uq,.bool uhf,.string uf] 85)).alloc (.cells #[.string us,.string uh,.string up,.string uq,.string uf] 9):=⟨_,rfl⟩
 have hb9:Below w.heap.size w w9:=by rw [hw9];exact ((Below.refl _ _).alloc (Nat.le_refl _) _).alloc (by simp) _
 have hs9:w9.heap.size = w.heap.size + 1 + 1:=by rw [hw9];simp
 have HU9:w9.heap[w.heap.size]? = some (.cells #[.string us,.bool uhh,.string uh,.string up,.bool uhq,.string uq,.bool uhf,.string uf] 85):=by rw [hw9];exact kept_alloc (by show (w.heap.push _)[w.heap.size]? = _;simp)
 have HT9:w9.heap[w.heap.size + 1]? = some (.cells #[.string us,.string uh,.string up,.string uq,.string uf] 9):=by
  rw [hw9]
  show ((w.heap.push _).push _)[w.heap.size + 1]? = _
  rw [Array.getElem?_push,if_pos (by simp)]
 have t0:=blk_cell HT9 0
 have t1:=blk_cell HT9 1
 have t2:=blk_cell HT9 2
 have t3:=blk_cell HT9 3
 have t4:=blk_cell HT9 4
 have tf:∀ i,w9.frozen? ⟨w.heap.size + 1,i,none⟩ = false:=blk_frozen HT9
 go_enter Tryz.func102,Tryz.ntmps102
 go_wp2
 rw [← hw9]
 clear hw9
 go_loop [18] (fun iv=>∃ k:Nat,k≤5∧iv = .int .i64 k∧Hid ((1≤k→us.size≤120)∧(2≤k→uh.size≤120)∧(3≤k→up.size≤120)∧(4≤k→uq.size≤120)∧(5≤k→uf.size≤120))) (fun iv=>5 - (intOf iv).toNat)
 case atStart=>exact ⟨0,Nat.zero_le _,rfl,⟨fun h=>absurd h (by omega),fun h=>absurd h (by omega),fun h=>absurd h (by omega),fun h=>absurd h (by omega),fun h=>absurd h (by omega)⟩⟩
 case round =>
  obtain ⟨k,hk,rfl,HK⟩:=hrel
  rcases (show k = 0 ∨ k = 1 ∨ k = 2 ∨ k = 3 ∨ k = 4 ∨ k = 5 by omega) with rfl | rfl | rfl | rfl | rfl | rfl
  ·by_cases hgt:120 < us.size
   ·have hgi:(120:Int) < (us.size:Int):=by omega
    have HN:Hid (R = 2):=HL.out (by omega)
    clear HK HL HSH
    go_wp2
    go_ret
    exact ⟨by rw [HN.out];rfl,hb9⟩
   ·have hgi:¬ (120:Int) < (us.size:Int):=by omega
    have HK2:Hid ((1≤1→us.size≤120)∧(2≤1→uh.size≤120)∧(3≤1→up.size≤120)∧(4≤1→uq.size≤120)∧(5≤1→uf.size≤120)):=by
     have:=HK.out
     unfold Hid
     refine ⟨fun _=>?_,fun _=>?_,fun _=>?_,fun _=>?_,fun _=>?_⟩ <;> omega
    clear HK HL HSH
    go_wp2
    go_round
    case rel=>exact ⟨1,by omega,by go_num,HK2⟩
    case measure=>simp [intOf]
  ·by_cases hgt:120 < uh.size
   ·have hgi:(120:Int) < (uh.size:Int):=by omega
    have HN:Hid (R = 2):=HL.out (by omega)
    clear HK HL HSH
    go_wp2
    go_ret
    exact ⟨by rw [HN.out];rfl,hb9⟩
   ·have hgi:¬ (120:Int) < (uh.size:Int):=by omega
    have HK2:Hid ((1≤2→us.size≤120)∧(2≤2→uh.size≤120)∧(3≤2→up.size≤120)∧(4≤2→uq.size≤120)∧(5≤2→uf.size≤120)):=by
     have:=HK.out
     unfold Hid
     refine ⟨fun _=>?_,fun _=>?_,fun _=>?_,fun _=>?_,fun _=>?_⟩ <;> omega
    clear HK HL HSH
    go_wp2
    go_round
    case rel=>exact ⟨2,by omega,by go_num,HK2⟩
    case measure=>simp [intOf]
  ·by_cases hgt:120 < up.size
   ·have hgi:(120:Int) < (up.size:Int):=by omega
    have HN:Hid (R = 2):=HL.out (by omega)
    clear HK HL HSH
    go_wp2
    go_ret
    exact ⟨by rw [HN.out];rfl,hb9⟩
   ·have hgi:¬ (120:Int) < (up.size:Int):=by omega
    have HK2:Hid ((1≤3→us.size≤120)∧(2≤3→uh.size≤120)∧(3≤3→up.size≤120)∧(4≤3→uq.size≤120)∧(5≤3→uf.size≤120)):=by
     have:=HK.out
     unfold Hid
     refine ⟨fun _=>?_,fun _=>?_,fun _=>?_,fun _=>?_,fun _=>?_⟩ <;> omega
    clear HK HL HSH
    go_wp2
    go_round
    case rel=>exact ⟨3,by omega,by go_num,HK2⟩
    case measure=>simp [intOf]
  ·by_cases hgt:120 < uq.size
   ·have hgi:(120:Int) < (uq.size:Int):=by omega
    have HN:Hid (R = 2):=HL.out (by omega)
    clear HK HL HSH
    go_wp2
    go_ret
    exact ⟨by rw [HN.out];rfl,hb9⟩
   ·have hgi:¬ (120:Int) < (uq.size:Int):=by omega
    have HK2:Hid ((1≤4→us.size≤120)∧(2≤4→uh.size≤120)∧(3≤4→up.size≤120)∧(4≤4→uq.size≤120)∧(5≤4→uf.size≤120)):=by
     have:=HK.out
     unfold Hid
     refine ⟨fun _=>?_,fun _=>?_,fun _=>?_,fun _=>?_,fun _=>?_⟩ <;> omega
    clear HK HL HSH
    go_wp2
    go_round
    case rel=>exact ⟨4,by omega,by go_num,HK2⟩
    case measure=>simp [intOf]
  ·by_cases hgt:120 < uf.size
   ·have hgi:(120:Int) < (uf.size:Int):=by omega
    have HN:Hid (R = 2):=HL.out (by omega)
    clear HK HL HSH
    go_wp2
    go_ret
    exact ⟨by rw [HN.out];rfl,hb9⟩
   ·have hgi:¬ (120:Int) < (uf.size:Int):=by omega
    have HK2:Hid ((1≤5→us.size≤120)∧(2≤5→uh.size≤120)∧(3≤5→up.size≤120)∧(4≤5→uq.size≤120)∧(5≤5→uf.size≤120)):=by
     have:=HK.out
     unfold Hid
     refine ⟨fun _=>?_,fun _=>?_,fun _=>?_,fun _=>?_,fun _=>?_⟩ <;> omega
    clear HK HL HSH
    go_wp2
    go_round
    case rel=>exact ⟨5,by omega,by go_num,HK2⟩
    case measure=>simp [intOf]
  ·obtain ⟨k1,k2,k3,k4,k5⟩:=HK.out
   obtain ⟨hR,hT,hbn,heh,heq,hef,heu,hes,C0,C1,C2,C3,C4,C5,C6,C7,C8,C9⟩:=HSH.out ⟨k1 (by omega),k2 (by omega),k3 (by omega),k4 (by omega),k5 (by omega)⟩
   have HR:Hid (R = if (b0 && (b1 && (b2 && (b3 && b4)))) = false then 1 else if bn = true then 4 else if (if uhh then !eu && !p1 else p2 || (es && cc)) = true then 4 else if 120 < T.size then 2 else 0):=hR
   have HE:Hid (bn = ((!eh && !uhh) || (!eq && !uhq) || (!ef && !uhf))∧eh = uh.data.toList.isEmpty∧eq = uq.data.toList.isEmpty∧ef = uf.data.toList.isEmpty∧eu = up.data.toList.isEmpty∧es = us.data.toList.isEmpty):=⟨hbn,heh,heq,hef,heu,hes⟩
   have H0:Hid (∀ W,Calls Tryz.prog 101 #[.string us] W fun e w'=>e = .returned (.bool b0)∧Below W.heap.size W w'):=C0
   have H1:Hid (∀ W,Calls Tryz.prog 88 #[.string uh,.int .u8 33,.int .u8 126,.string ⟨#[34,60,62,92,94,96,123,124,125,47,63,35,65,66,67,68,69,70,71,72,73,74,75,76,77,78,79,80,81,82,83,84,85,86,87,88,89,90]⟩] W fun e w'=>e = .returned (.bool b1)∧w' = W):=C1
   have H2:Hid (∀ W,Calls Tryz.prog 88 #[.string up,.int .u8 33,.int .u8 126,.string ⟨#[34,60,62,92,94,96,123,124,125,63,35]⟩] W fun e w'=>e = .returned (.bool b2)∧w' = W):=C2
   have H3:Hid (∀ W,Calls Tryz.prog 88 #[.string uq,.int .u8 33,.int .u8 126,.string ⟨#[34,60,62,92,94,96,123,124,125,35]⟩] W fun e w'=>e = .returned (.bool b3)∧w' = W):=C3
   have H4:Hid (∀ W,Calls Tryz.prog 88 #[.string uf,.int .u8 33,.int .u8 126,.string ⟨#[34,60,62,92,94,96,123,124,125,35]⟩] W fun e w'=>e = .returned (.bool b4)∧w' = W):=C4
   have H5:Hid (∀ W,Calls Tryz.prog 59 #[.string up,.string ⟨#[47]⟩] W fun e w'=>e = .returned (.bool p1)∧w' = W):=C5
   have H6:Hid (∀ W,Calls Tryz.prog 59 #[.string up,.string ⟨#[47,47]⟩] W fun e w'=>e = .returned (.bool p2)∧w' = W):=C6
   have H7:Hid (∀ W,Below w.heap.size w W→Calls Tryz.prog 57 #[.string up,.string ⟨#[47]⟩] W fun e w'=>e = .returned (.slice (some ⟨W.heap.size,0,none⟩) (n + 1) (n + 1))∧Below W.heap.size W w'∧w'.cell? ⟨W.heap.size,0,none⟩ = some (.string P0)∧w'.frozen? ⟨W.heap.size,0,none⟩ = false):=C7
   have H8:Hid (∀ W,Calls Tryz.prog 111 #[.string P0,.string ⟨#[58]⟩] W fun e w'=>e = .returned (.bool cc)∧w' = W):=C8
   have H9:Hid (∀ W,Calls Tryz.prog 55 #[.agg #[.string us,.bool uhh,.string uh,.string up,.bool uhq,.string uq,.bool uhf,.string uf]] W fun e w'=>e = .returned (.string T)∧Below W.heap.size W w'):=C9
   have z0:∀ W,Below w9.heap.size w9 W→W.cell? ⟨w.heap.size,0,none⟩ = some (.string us):=fun W hb=>blk_cell (kept_on HU9 hb) 0
   have z1:∀ W,Below w9.heap.size w9 W→W.cell? ⟨w.heap.size,1,none⟩ = some (.bool uhh):=fun W hb=>blk_cell (kept_on HU9 hb) 1
   have z2:∀ W,Below w9.heap.size w9 W→W.cell? ⟨w.heap.size,2,none⟩ = some (.string uh):=fun W hb=>blk_cell (kept_on HU9 hb) 2
   have z3:∀ W,Below w9.heap.size w9 W→W.cell? ⟨w.heap.size,3,none⟩ = some (.string up):=fun W hb=>blk_cell (kept_on HU9 hb) 3
   have z4:∀ W,Below w9.heap.size w9 W→W.cell? ⟨w.heap.size,4,none⟩ = some (.bool uhq):=fun W hb=>blk_cell (kept_on HU9 hb) 4
   have z5:∀ W,Below w9.heap.size w9 W→W.cell? ⟨w.heap.size,5,none⟩ = some (.string uq):=fun W hb=>blk_cell (kept_on HU9 hb) 5
   have z6:∀ W,Below w9.heap.size w9 W→W.cell? ⟨w.heap.size,6,none⟩ = some (.bool uhf):=fun W hb=>blk_cell (kept_on HU9 hb) 6
   have z7:∀ W,Below w9.heap.size w9 W→W.cell? ⟨w.heap.size,7,none⟩ = some (.string uf):=fun W hb=>blk_cell (kept_on HU9 hb) 7
   have kf:∀ W,Below w9.heap.size w9 W→∀ i,W.frozen? ⟨w.heap.size,i,none⟩ = false:=fun W hb=>blk_frozen (kept_on HU9 hb)
   clear k1 k2 k3 k4 k5 hR hbn heh heq hef heu hes C0 C1 C2 C3 C4 C5 C6 C7 C8 C9 HK HL HSH m0 m1 m2 m3 m4 t0 t1 t2 t3 t4 tf HT9
   have h99:Below w9.heap.size w9 w9:=Below.refl _ _
   have HU:Hid (w9.heap[w.heap.size]? = some (.cells #[.string us,.bool uhh,.string uh,.string up,.bool uhq,.string uq,.bool uhf,.string uf] 85)):=HU9
   clear HU9
   go_upto_region 7 with fail
   go_cut [5] (fun c wx=>c = .bool (b0 && (b1 && (b2 && (b3 && b4))))∧Below w9.heap.size w9 wx)
   case first =>
    clear HR HE H5 H6 H7 H8 H9 HU
    have y0:=z0 w9 h99
    clear z0 z1 z4 z6
    cases b0 with
    | false =>
     go_wp2_with fail
     refine (H0.out _).mono ?_
     rintro e w1 ⟨rfl,hb1⟩
     go_wp2_with fail
     go_meet
     exact ⟨rfl,hb1⟩
    | true =>
     go_wp2_with fail
     refine (H0.out _).mono ?_
     rintro e w1 ⟨rfl,hb1⟩
     have y2:=z2 w1 hb1
     have y3:=z3 w1 hb1
     have y5:=z5 w1 hb1
     have y7:=z7 w1 hb1
     clear H0 z2 z3 z5 z7 kf
     go_wp2_with fail
     refine (H1.out _).mono ?_
     rintro e w2 ⟨rfl,hw2⟩
     subst hw2
     cases b1 with
     | false =>
      go_wp2_with fail
      go_meet
      exact ⟨rfl,hb1⟩
     | true =>
      go_wp2_with fail
      refine (H2.out _).mono ?_
      rintro e w3 ⟨rfl,hw3⟩
      subst hw3
      cases b2 with
      | false =>
       go_wp2_with fail
       go_meet
       exact ⟨rfl,hb1⟩
      | true =>
       go_wp2_with fail
       refine (H3.out _).mono ?_
       rintro e w4 ⟨rfl,hw4⟩
       subst hw4
       cases b3 with
       | false =>
        go_wp2_with fail
        go_meet
        exact ⟨rfl,hb1⟩
       | true =>
        go_wp2_with fail
        refine (H4.out _).mono ?_
        rintro e w5 ⟨rfl,hw5⟩
        subst hw5
        cases b4
        all_goals (
         go_wp2_with fail
         go_meet
         exact ⟨rfl,hb1⟩)
   case rest =>
    obtain ⟨rfl,hb1⟩:=hcut
    have B1:Below w.heap.size w wc:=hb9.trans (hb1.mono hb9.size)
    clear H0 H1 H2 H3 H4
    by_cases hbw:(b0 && (b1 && (b2 && (b3 && b4)))) = true
    ·rw [hbw]
     have y0:=z0 wc hb1
     have y1:=z1 wc hb1
     have y2:=z2 wc hb1
     have y3:=z3 wc hb1
     have y4:=z4 wc hb1
     have y5:=z5 wc hb1
     have y6:=z6 wc hb1
     have y7:=z7 wc hb1
     clear z0 z1 z2 z3 z4 z5 z6 z7 kf
     go_upto_region 10 with fail
     go_cut [78] (fun c wx=>c = .bool bn∧wx = wc)
     case first =>
      clear H5 H6 H7 H8 H9 HR HU
      obtain ⟨hbn,heh,heq,hef,heu,hes⟩:=HE.out
      have e1:uh.toList.isEmpty = eh:=by rw [ByteArray.toList_eq,heh]
      have e2:uq.toList.isEmpty = eq:=by rw [ByteArray.toList_eq,heq]
      have e3:uf.toList.isEmpty = ef:=by rw [ByteArray.toList_eq,hef]
      have HB:Hid (bn = ((!eh && !uhh) || (!eq && !uhq) || (!ef && !uhf))):=hbn
      clear hbn heh heq hef heu hes HE y0 y3 B1 hbw hT
      cases eh with
      | true =>
       cases eq with
       | true =>
        cases ef with
        | true =>
         go_wp2_with fail
         go_meet
         exact ⟨by rw [HB.out];simp,rfl⟩
        | false =>
         cases uhf with
         | false =>
          go_wp2_with fail
          go_meet
          exact ⟨by rw [HB.out];simp,rfl⟩
         | true =>
          go_wp2_with fail
          go_meet
          exact ⟨by rw [HB.out];simp,rfl⟩
       | false =>
        cases uhq with
        | false =>
         go_wp2_with fail
         go_meet
         exact ⟨by rw [HB.out];simp,rfl⟩
        | true =>
         cases ef with
         | true =>
          go_wp2_with fail
          go_meet
          exact ⟨by rw [HB.out];simp,rfl⟩
         | false =>
          cases uhf with
          | false =>
           go_wp2_with fail
           go_meet
           exact ⟨by rw [HB.out];simp,rfl⟩
          | true =>
           go_wp2_with fail
           go_meet
           exact ⟨by rw [HB.out];simp,rfl⟩
      | false =>
       cases uhh with
       | false =>
        go_wp2_with fail
        go_meet
        exact ⟨by rw [HB.out];simp,rfl⟩
       | true =>
        cases eq with
        | true =>
         cases ef with
         | true =>
          go_wp2_with fail
          go_meet
          exact ⟨by rw [HB.out];simp,rfl⟩
         | false =>
          cases uhf with
          | false =>
           go_wp2_with fail
           go_meet
           exact ⟨by rw [HB.out];simp,rfl⟩
          | true =>
           go_wp2_with fail
           go_meet
           exact ⟨by rw [HB.out];simp,rfl⟩
        | false =>
         cases uhq with
         | false =>
          go_wp2_with fail
          go_meet
          exact ⟨by rw [HB.out];simp,rfl⟩
         | true =>
          cases ef with
          | true =>
           go_wp2_with fail
           go_meet
           exact ⟨by rw [HB.out];simp,rfl⟩
          | false =>
           cases uhf with
           | false =>
            go_wp2_with fail
            go_meet
            exact ⟨by rw [HB.out];simp,rfl⟩
           | true =>
            go_wp2_with fail
            go_meet
            exact ⟨by rw [HB.out];simp,rfl⟩
     case rest =>
      obtain ⟨rfl,hwc⟩:=hcut
      subst hwc
      obtain ⟨hbn,heh,heq,hef,heu,hes⟩:=HE.out
      have e4:up.toList.isEmpty = eu:=by rw [ByteArray.toList_eq,heu]
      have e5:us.toList.isEmpty = es:=by rw [ByteArray.toList_eq,hes]
      clear hbn heh heq hef heu hes
      cases bn with
      | true =>
       have HN:Hid (R = 4):=by unfold Hid;rw [HR.out,if_neg (by simp [hbw]),if_pos rfl]
       clear HR HE H5 H6 H7 H8 H9 HU
       go_wp2
       go_ret
       exact ⟨by rw [HN.out];rfl,B1⟩
      | false =>
       cases uhh with
       | true =>
        cases eu with
        | true =>
         have HF:Hid (R = if 120 < T.size then 2 else 0):=by unfold Hid;rw [HR.out,if_neg (by simp [hbw]),if_neg (by simp),if_neg (by simp)]
         clear HR HE H5 H6 H7 H8 HU
         by_cases hgt:120 < T.size
         ·have hgi:(120:Int) < (T.size:Int):=by omega
          have HN:Hid (R = 2):=by unfold Hid;rw [HF.out,if_pos hgt]
          clear HF
          go_wp2_with fail
          refine (H9.out _).mono ?_
          rintro e wt ⟨rfl,hbt⟩
          go_wp2
          go_ret
          exact ⟨by rw [HN.out];rfl,B1.trans (hbt.mono B1.size)⟩
         ·have hgi:¬ (120:Int) < (T.size:Int):=by omega
          have HN:Hid (R = 0):=by unfold Hid;rw [HF.out,if_neg hgt]
          clear HF
          go_wp2_with fail
          refine (H9.out _).mono ?_
          rintro e wt ⟨rfl,hbt⟩
          go_wp2
          go_ret
          exact ⟨by rw [HN.out];rfl,B1.trans (hbt.mono B1.size)⟩
        | false =>
         go_wp2_with fail
         refine (H5.out _).mono ?_
         rintro e w2 ⟨rfl,hw2⟩
         subst hw2
         cases p1 with
         | true =>
          have HF:Hid (R = if 120 < T.size then 2 else 0):=by unfold Hid;rw [HR.out,if_neg (by simp [hbw]),if_neg (by simp),if_neg (by simp)]
          clear HR HE H5 H6 H7 H8 HU
          by_cases hgt:120 < T.size
          ·have hgi:(120:Int) < (T.size:Int):=by omega
           have HN:Hid (R = 2):=by unfold Hid;rw [HF.out,if_pos hgt]
           clear HF
           go_wp2_with fail
           refine (H9.out _).mono ?_
           rintro e wt ⟨rfl,hbt⟩
           go_wp2
           go_ret
           exact ⟨by rw [HN.out];rfl,B1.trans (hbt.mono B1.size)⟩
          ·have hgi:¬ (120:Int) < (T.size:Int):=by omega
           have HN:Hid (R = 0):=by unfold Hid;rw [HF.out,if_neg hgt]
           clear HF
           go_wp2_with fail
           refine (H9.out _).mono ?_
           rintro e wt ⟨rfl,hbt⟩
           go_wp2
           go_ret
           exact ⟨by rw [HN.out];rfl,B1.trans (hbt.mono B1.size)⟩
         | false =>
          have HN:Hid (R = 4):=by unfold Hid;rw [HR.out,if_neg (by simp [hbw]),if_neg (by simp),if_pos (by simp)]
          clear HR HE H5 H6 H7 H8 H9 HU
          go_wp2
          go_ret
          exact ⟨by rw [HN.out];rfl,B1⟩
       | false =>
        go_wp2_with fail
        refine (H6.out _).mono ?_
        rintro e w2 ⟨rfl,hw2⟩
        subst hw2
        cases p2 with
        | true =>
         have HN:Hid (R = 4):=by unfold Hid;rw [HR.out,if_neg (by simp [hbw]),if_neg (by simp),if_pos (by simp)]
         clear HR HE H5 H6 H7 H8 H9 HU
         go_wp2
         go_ret
         exact ⟨by rw [HN.out];rfl,B1⟩
        | false =>
         cases es with
         | false =>
          have HF:Hid (R = if 120 < T.size then 2 else 0):=by unfold Hid;rw [HR.out,if_neg (by simp [hbw]),if_neg (by simp),if_neg (by simp)]
          clear HR HE H5 H6 H7 H8 HU
          by_cases hgt:120 < T.size
          ·have hgi:(120:Int) < (T.size:Int):=by omega
           have HN:Hid (R = 2):=by unfold Hid;rw [HF.out,if_pos hgt]
           clear HF
           go_wp2_with fail
           refine (H9.out _).mono ?_
           rintro e wt ⟨rfl,hbt⟩
           go_wp2
           go_ret
           exact ⟨by rw [HN.out];rfl,B1.trans (hbt.mono B1.size)⟩
          ·have hgi:¬ (120:Int) < (T.size:Int):=by omega
           have HN:Hid (R = 0):=by unfold Hid;rw [HF.out,if_neg hgt]
           clear HF
           go_wp2_with fail
           refine (H9.out _).mono ?_
           rintro e wt ⟨rfl,hbt⟩
           go_wp2
           go_ret
           exact ⟨by rw [HN.out];rfl,B1.trans (hbt.mono B1.size)⟩
         | true =>
          go_wp2_with fail
          refine (H7.out _ B1).mono ?_
          rintro e w3 ⟨rfl,hb3,hc3,hf3⟩
          have hz0:=kept_on (kept_on HU.out hb1) hb3
          have B3:Below w.heap.size w w3:=B1.trans (hb3.mono B1.size)
          clear y0 y1 y2 y3 y4 y5 y6 y7
          obtain ⟨y0,y1,y2,y3,y4,y5,y6,y7,y8⟩:=cells_8 hz0
          go_wp2_with fail
          refine (H8.out _).mono ?_
          rintro e w4 ⟨rfl,hw4⟩
          subst hw4
          cases cc with
          | true =>
           have HN:Hid (R = 4):=by unfold Hid;rw [HR.out,if_neg (by simp [hbw]),if_neg (by simp),if_pos (by simp)]
           clear HR HE H5 H6 H7 H8 H9 HU
           go_wp2
           go_ret
           exact ⟨by rw [HN.out];rfl,B3⟩
          | false =>
           have HF:Hid (R = if 120 < T.size then 2 else 0):=by unfold Hid;rw [HR.out,if_neg (by simp [hbw]),if_neg (by simp),if_neg (by simp)]
           clear HR HE H5 H6 H7 H8 HU
           by_cases hgt:120 < T.size
           ·have hgi:(120:Int) < (T.size:Int):=by omega
            have HN:Hid (R = 2):=by unfold Hid;rw [HF.out,if_pos hgt]
            clear HF
            go_wp2_with fail
            refine (H9.out _).mono ?_
            rintro e wt ⟨rfl,hbt⟩
            go_wp2
            go_ret
            exact ⟨by rw [HN.out];rfl,B3.trans (hbt.mono B3.size)⟩
           ·have hgi:¬ (120:Int) < (T.size:Int):=by omega
            have HN:Hid (R = 0):=by unfold Hid;rw [HF.out,if_neg hgt]
            clear HF
            go_wp2_with fail
            refine (H9.out _).mono ?_
            rintro e wt ⟨rfl,hbt⟩
            go_wp2
            go_ret
            exact ⟨by rw [HN.out];rfl,B3.trans (hbt.mono B3.size)⟩
    ·have hbf:(b0 && (b1 && (b2 && (b3 && b4)))) = false:=by simpa using hbw
     rw [hbf]
     have HN:Hid (R = 1):=by unfold Hid;rw [HR.out,if_pos hbf]
     clear HR HE H5 H6 H7 H8 H9 HU z0 z1 z2 z3 z4 z5 z6 z7 kf
     go_wp2
     go_ret
     exact ⟨by rw [HN.out];rfl,B1⟩
end Go.Proofs.YtbbfcbodhmeanaaGreatDoor



import Derived.Below
import Derived.Laws.Rows
import Derived.Lib.Replace
import Derived.Test.YtbbfcbodhmeanaaGreatDoorXrewriteonly2
namespace Go.Proofs.YtbbfcbodhmeanaaGreatDoor
open Go.RowKit
def RdAt (w:World) (g:Nat) (p:ByteArray) (k:Int):Prop:=w.heap[g]? = some (.cells #[.string p,.int .i64 k] 121)
theorem RdAt.page {w:World} {g:Nat} {p:ByteArray} {k:Int} (h:RdAt w g p k):w.cell? ⟨g,0,none⟩ = some (.string p):=(cell_of_row w g 0 #[.string p,.int .i64 k] 121 (0,0) h).trans rfl
theorem RdAt.at_ {w:World} {g:Nat} {p:ByteArray} {k:Int} (h:RdAt w g p k):w.cell? ⟨g,1,none⟩ = some (.int .i64 k):=(cell_of_row w g 1 #[.string p,.int .i64 k] 121 (0,0) h).trans rfl
theorem RdAt.lt {w:World} {g:Nat} {p:ByteArray} {k:Int} (h:RdAt w g p k):g < w.heap.size:=(Array.getElem?_eq_some_iff.1 h).1
theorem RdAt.frozen {w:World} {g:Nat} {p:ByteArray} {k:Int} (h:RdAt w g p k) (o:Nat):w.frozen? ⟨g,o,none⟩ = false:=by simp [World.frozen?,show w.heap[g]? = _ from h]
theorem RdAt.set {w:World} {g:Nat} {p:ByteArray} {k:Int} (h:RdAt w g p k) (m:Int):RdAt (w.setCell ⟨g,1,none⟩ (.int .i64 m)) g p m:=by
 unfold RdAt
 rw [heap_setCell_same w g 1 #[.string p,.int .i64 k] 121 (.int .i64 m) h]
 rfl
theorem RdAt.below {w w':World} {g:Nat} {p:ByteArray} {k:Int} (h:RdAt w g p k) (hb:Below w.heap.size w w'):RdAt w' g p k:=by
 unfold RdAt
 rw [hb.block g h.lt]
 exact h
theorem RdAt.drew {w:World} {g:Nat} {p:ByteArray} {k:Int} (h:RdAt w g p k):RdAt w.drew g p k:=h
theorem rd_new (w:World) (p:ByteArray) (k:Int):RdAt (w.alloc (.cells #[.string p,.int .i64 k] 121)) w.heap.size p k:=by
 show (w.heap.push _)[w.heap.size]? = _
 rw [Array.getElem?_push,if_pos rfl]
theorem BRow.moved {w:World} {q:Option Addr} {l:List UInt8} (h:BRow w q l) {g:Nat} {p:ByteArray} {k:Int} (hc:RdAt w g p k) (v:Value):BRow (w.setCell ⟨g,1,none⟩ v) q l:=by
 intro hne
 obtain ⟨b,o,e,hl⟩:=h hne
 refine ⟨b,o,e,fun i hi=>?_⟩
 have h1:=hl i hi
 rw [World.cell?_setCell_other _ _ _ _ (fun e=>by rw [← e,hc.at_] at h1;cases h1)]
 exact h1
theorem set1_size (w:World) (g:Nat) (v:Value):(w.setCell ⟨g,1,none⟩ v).heap.size = w.heap.size:=by simp [World.setCell]
def Moves (w:World) (g:Nat) (m:Int) (w':World):Prop:=Below w.heap.size (w.setCell ⟨g,1,none⟩ (.int .i64 m)) w'
theorem Moves.rd {w w':World} {g:Nat} {p:ByteArray} {k m:Int} (h:Moves w g m w') (hc:RdAt w g p k):RdAt w' g p m :=
 (hc.set m).below (by rw [set1_size];exact h)
theorem Moves.size {w w':World} {g:Nat} {m:Int} (h:Moves w g m w'):w.heap.size≤w'.heap.size:=by
 have h1:Below w.heap.size (w.setCell ⟨g,1,none⟩ (.int .i64 m)) w':=h
 have h2:=h1.size
 rw [set1_size] at h2
 exact h2
theorem Moves.block {w w':World} {g:Nat} {m:Int} (h:Moves w g m w') (b:Nat) (hb:b < w.heap.size) (hg:b ≠ g):w'.heap[b]? = w.heap[b]?:=by
 have h1:Below w.heap.size (w.setCell ⟨g,1,none⟩ (.int .i64 m)) w':=h
 rw [h1.block b hb,Below.heap_setCell _ _ _ _ hg]
theorem Moves.trans {w w1 w2:World} {g:Nat} {p:ByteArray} {n m k:Int} (h1:Moves w g m w1) (h2:Moves w1 g k w2) (hc:RdAt w g p n):Moves w g k w2:=by
 have c1:=h1.rd hc
 have c2:=h2.rd c1
 have b1:Below w.heap.size (w.setCell ⟨g,1,none⟩ (.int .i64 m)) w1:=h1
 have b2:Below w1.heap.size (w1.setCell ⟨g,1,none⟩ (.int .i64 k)) w2:=h2
 refine ⟨b2.os.trans b1.os,b2.tape.trans b1.tape,b2.output.trans b1.output,?_,fun i hi=>?_⟩
 ·rw [set1_size]
  exact Nat.le_trans h1.size h2.size
 ·by_cases e:i = g
  ·subst e
   rw [show w2.heap[i]? = _ from c2,show (w.setCell ⟨i,1,none⟩ (.int .i64 k)).heap[i]? = _ from hc.set k]
  ·rw [b2.block i (Nat.lt_of_lt_of_le hi h1.size),Below.heap_setCell _ _ _ _ e,b1.block i hi,Below.heap_setCell _ _ _ _ e,Below.heap_setCell _ _ _ _ e]
theorem Moves.then {w w1 w2:World} {g:Nat} {m:Int} (h1:Moves w g m w1) (h2:Below w1.heap.size w1 w2):Moves w g m w2:=by
 have b1:Below w.heap.size (w.setCell ⟨g,1,none⟩ (.int .i64 m)) w1:=h1
 exact b1.trans (h2.mono h1.size)
theorem Moves.base {w0 w w':World} {g:Nat} {m:Int} (h:Moves w g m w') (hb:Below w0.heap.size w0 w) (hg:w0.heap.size≤g):Below w0.heap.size w0 w' :=
 (hb.setCell (p:=⟨g,1,none⟩) hg (.int .i64 m)).trans (h.mono hb.size)
theorem Moves.owns {w w':World} {g:Nat} {m:Int} (h:Moves w g m w') {B e s k:Nat} {v:Value} {xs:List Value} (ho:w.ownsRow B e s v k xs) (hB:g < B):w'.ownsRow B e s v k xs:=by
 have h1:=ownsRow_setCell_below ho (a:=⟨g,1,none⟩) hB (.int .i64 m)
 exact ownsRow_below h1 (by rw [set1_size];exact h)
theorem Moves.bytes {w w':World} {g:Nat} {p:ByteArray} {k m:Int} (h:Moves w g m w') (hc:RdAt w g p k) {q:Option Addr} {l:List UInt8} (hr:BRow w q l):BRow w' q l :=
 (hr.moved hc (.int .i64 m)).below (by rw [set1_size];exact h)
theorem Moves.still {w:World} {g:Nat} {p:ByteArray} {k:Int} (hc:RdAt w g p k):Moves w g k w:=by
 unfold Moves
 refine ⟨rfl,rfl,rfl,by simp [World.setCell],fun i hi=>?_⟩
 by_cases e:i = g
 ·subst e
  rw [show w.heap[i]? = _ from hc,show (w.setCell ⟨i,1,none⟩ (.int .i64 k)).heap[i]? = _ from hc.set k]
 ·rw [Below.heap_setCell _ _ _ _ e]
theorem Moves.of_set {w:World} {g:Nat} {m:Int}:Moves w g m (w.setCell ⟨g,1,none⟩ (.int .i64 m)):=by
 unfold Moves
 have:=Below.refl w.heap.size (w.setCell ⟨g,1,none⟩ (.int .i64 m))
 exact this
end Go.Proofs.YtbbfcbodhmeanaaGreatDoor



namespace Go.Proofs.YtbbfcbodhmeanaaGreatDoor
def spB (c:UInt8):Bool:=[32,9,13,10,12].contains c
def letB (c:UInt8):Bool:=(decide (97≤c.toNat) && decide (c.toNat≤122)) || (decide (65≤c.toNat) && decide (c.toNat≤90))
def inName (c:UInt8):Bool:=!spB c && c != 47 && c != 62
def inGap (c:UInt8):Bool:=spB c || c == 47
def inAttr (c:UInt8):Bool:=!spB c && c != 47 && c != 62 && c != 61
def inBare (c:UInt8):Bool:=!spB c && c != 62
def notQ (q c:UInt8):Bool:=c != q
def hrefL:List UInt8:=[104,114,101,102]
def srcL:List UInt8:=[115,114,99]
def qB (c:UInt8):Bool:=c == 34 || c == 39
abbrev LK:=Nat × List UInt8
def valP:List UInt8→List UInt8 × List UInt8 × List UInt8
 | []=>([],[],[])
 | c::t=>if qB c = true then (t,t.takeWhile (notQ c),(t.dropWhile (notQ c)).drop 1) else (c::t,(c::t).takeWhile inBare,(c::t).dropWhile inBare)
def behP:List UInt8→Option LK × List UInt8
 | []=>(none,[])
 | c::t=>if c = 61 then (some ((valP (t.dropWhile spB)).1.length,(valP (t.dropWhile spB)).2.1),(valP (t.dropWhile spB)).2.2) else (none,c::t)
def nameP (s:List UInt8):List UInt8:=s.take 1 ++ (s.drop 1).takeWhile inAttr
def attrP (s:List UInt8):Option LK × List UInt8:=behP (((s.drop 1).dropWhile inAttr).dropWhile spB)
def mineP (seen:List (List UInt8)) (nm:List UInt8) (v:Option LK):List LK :=
 match v with
 | none=>[]
 | some x=>if seen.contains nm = false∧(nm = hrefL ∨ nm = srcL) then [x] else []
def tagF (low:List UInt8→List UInt8):Nat→List (List UInt8)→List UInt8→Option (List LK) × List UInt8
 | 0,_,_=>(none,[])
 | n + 1,seen,s=>match s.dropWhile inGap with
  | []=>(none,[])
  | c::t=>if c = 62 then (some [],t) else
   ((tagF low n (low (nameP (c::t))::seen) (attrP (c::t)).2).1.map (mineP seen (low (nameP (c::t))) (attrP (c::t)).1 ++ ·),(tagF low n (low (nameP (c::t))::seen) (attrP (c::t)).2).2)
def behindL (m s:List UInt8):List UInt8:=if Lib.index s m < 0 then [] else s.drop ((Lib.index s m).toNat + m.length)
def headL (s:List UInt8):Bool:=match s with
 | []=>false
 | c::_=>letB c
def tagB (m s:List UInt8):Bool:=m.isPrefixOf s && headL (s.drop m.length)
def tagP (low:List UInt8→List UInt8) (s:List UInt8):Option (List LK) × List UInt8:=tagF low ((s.dropWhile inName).length + 1) [] (s.dropWhile inName)
def comL:List UInt8:=[60,33,45,45]
def comE:List UInt8:=[45,45,62]
def pieceP (low:List UInt8→List UInt8) (s:List UInt8):List LK × List UInt8 :=
 if comL.isPrefixOf s = true then ([],behindL comE (s.drop 4))
 else if ([60,33]:List UInt8).isPrefixOf s = true ∨ ([60,63]:List UInt8).isPrefixOf s = true then ([],behindL [62] s)
 else if tagB [60] s = true then ((tagP low (s.drop 1)).1.getD [],(tagP low (s.drop 1)).2)
 else if tagB [60,47] s = true then ([],(tagP low (s.drop 2)).2)
 else ([],s.drop 1)
def findF (low:List UInt8→List UInt8):Nat→List LK→List UInt8→Option (List LK)
 | 0,acc,_=>some acc
 | n + 1,acc,s=>if s = [] then some acc else if 60 < (acc ++ (pieceP low s).1).length then none else findF low n (acc ++ (pieceP low s).1) (pieceP low s).2
def findP (low:List UInt8→List UInt8) (s:List UInt8):Option (List LK):=if 4000 < s.length then none else findF low s.length [] s
def ampL:List UInt8:=[38,97,109,112,59]
def unamp (s:List UInt8):List UInt8:=Lib.replaceAll s ampL [38]
def okT (c:UInt8):Bool:=decide (33≤c.toNat) && decide (c.toNat≤126) && !([34,39,60,62,38,61]:List UInt8).contains c
def plainT (t:List UInt8):Bool:=t.all okT
def fillP:List LK→List (List UInt8)→List UInt8→List UInt8
 | x::ls,t::ts,s=>if t = [] then fillP ls ts s else s.take (s.length - x.1) ++ t ++ fillP ls ts (s.drop (s.length - x.1 + x.2.length))
 | _,_,s=>s
def putP (low:List UInt8→List UInt8) (b:List UInt8) (texts:List (List UInt8)):List UInt8 × Nat :=
 match findP low b with
 | none=>([],2)
 | some l=>if texts.length ≠ l.length then ([],4) else if texts.all plainT = false then ([],1) else if 4000 < (fillP l texts b).length then ([],2) else (fillP l texts b,0)
theorem drop_dropWhile {α:Type} (p:α→Bool) (s:List α):(s.dropWhile p).length≤s.length:=by
 induction s with
 | nil=>exact Nat.le_refl _
 | cons c t ih=>simp only [List.dropWhile_cons];split <;> simp <;> omega
theorem val_len (s:List UInt8):(valP s).2.2.length≤s.length:=by
 unfold valP
 cases s with
 | nil=>exact Nat.le_refl _
 | cons c t =>
  simp only
  split
  ·have:=drop_dropWhile (notQ c) t;simp only [List.length_drop,List.length_cons];omega
  ·exact drop_dropWhile inBare (c::t)
theorem beh_len (s:List UInt8):(behP s).2.length≤s.length:=by
 unfold behP
 cases s with
 | nil=>exact Nat.le_refl _
 | cons c t =>
  simp only
  split
  ·have h1:=val_len (t.dropWhile spB);have h2:=drop_dropWhile spB t;simp only [List.length_cons];omega
  ·exact Nat.le_refl _
theorem attr_len (c:UInt8) (t:List UInt8):(attrP (c::t)).2.length≤t.length:=by
 unfold attrP
 have h1:=beh_len ((((c::t).drop 1).dropWhile inAttr).dropWhile spB)
 have h2:=drop_dropWhile spB (((c::t).drop 1).dropWhile inAttr)
 have h3:=drop_dropWhile inAttr ((c::t).drop 1)
 have h4:((c::t).drop 1).length = t.length:=rfl
 omega
theorem dropWhile_le_cons {p:UInt8→Bool} {s t:List UInt8} {c:UInt8} (h:s.dropWhile p = c::t):t.length < s.length:=by
 have:=drop_dropWhile p s;rw [h] at this;simp at this;omega
theorem tagF_fuel (low:List UInt8→List UInt8):∀ (n m:Nat) (seen:List (List UInt8)) (s:List UInt8),s.length < n→s.length < m→tagF low n seen s = tagF low m seen s
 | 0,_,_,s,h,_=>absurd h (Nat.not_lt_zero _)
 | _,0,_,s,_,h=>absurd h (Nat.not_lt_zero _)
 | n + 1,m + 1,seen,s,h1,h2=>by
  unfold tagF
  cases h:s.dropWhile inGap with
  | nil=>rfl
  | cons c t =>
   simp only
   have h3:=dropWhile_le_cons h
   have h4:=attr_len c t
   rw [tagF_fuel low n m _ _ (by omega) (by omega)]
theorem tag_len (low:List UInt8→List UInt8):∀ (n:Nat) (seen:List (List UInt8)) (s:List UInt8),(tagF low n seen s).2.length≤s.length
 | 0,_,_=>Nat.zero_le _
 | n + 1,seen,s=>by
  unfold tagF
  cases h:s.dropWhile inGap with
  | nil=>exact Nat.zero_le _
  | cons c t =>
   simp only
   have h3:=dropWhile_le_cons h
   have h4:=attr_len c t
   split
   ·simp only;omega
   ·have:=tag_len low n (low (nameP (c::t))::seen) (attrP (c::t)).2
    simp only
    omega
theorem behind_len (m s:List UInt8):(behindL m s).length≤s.length:=by
 unfold behindL
 split
 ·exact Nat.zero_le _
 ·simp only [List.length_drop];omega
theorem tagP_len (low:List UInt8→List UInt8) (s:List UInt8):(tagP low s).2.length≤s.length:=by
 unfold tagP
 have h1:=tag_len low ((s.dropWhile inName).length + 1) [] (s.dropWhile inName)
 have h2:=drop_dropWhile inName s
 omega
theorem piece_len (low:List UInt8→List UInt8) (c:UInt8) (t:List UInt8):(pieceP low (c::t)).2.length < (c::t).length:=by
 unfold pieceP
 split
 ·have:=behind_len comE ((c::t).drop 4);simp only [List.length_drop,List.length_cons] at *;omega
 ·split
  ·simp only [behindL];split
   ·simp
   ·simp only [List.length_drop,List.length_cons,List.length_nil];omega
  ·split
   ·have:=tagP_len low ((c::t).drop 1);simp only [List.length_drop,List.length_cons] at *;omega
   ·split
    ·have:=tagP_len low ((c::t).drop 2);simp only [List.length_drop,List.length_cons] at *;omega
    ·simp
theorem findF_fuel (low:List UInt8→List UInt8):∀ (n m:Nat) (acc:List LK) (s:List UInt8),s.length≤n→s.length≤m→findF low n acc s = findF low m acc s
 | 0,0,_,_,_,_=>rfl
 | 0,m + 1,acc,s,h,_=>by
  obtain rfl:s = []:=List.length_eq_zero_iff.1 (by omega)
  simp [findF]
 | n + 1,0,acc,s,_,h=>by
  obtain rfl:s = []:=List.length_eq_zero_iff.1 (by omega)
  simp [findF]
 | n + 1,m + 1,acc,s,h1,h2=>by
  unfold findF
  cases s with
  | nil=>rfl
  | cons c t =>
   have:=piece_len low c t
   rw [findF_fuel low n m _ _ (by omega) (by omega)]
end Go.Proofs.YtbbfcbodhmeanaaGreatDoor



namespace Go.Proofs.YtbbfcbodhmeanaaGreatDoor
open Go.RowKit
theorem ne_u8 {c:UInt8} {n:Nat} (hn:n < 256) (h:¬ c = UInt8.ofNat n):¬ (c.toNat:Int) = (n:Int):=fun e=>h (UInt8.toNat_inj.1 (by rw [UInt8.toNat_ofNat_of_lt' hn];omega))
set_option maxHeartbeats 1000000 in
theorem space_any (c:UInt8) (cc:Int) (e:cc = (c.toNat:Int)) (w:World) :
  Calls Tryz.prog 172 #[.int .u8 cc] w fun e w'=>e = .returned (.bool (spB c))∧w' = w:=by
 subst e
 go_enter Tryz.func172,Tryz.ntmps172
 go_wp2_with (go_at_call 93;refine (ix_any ⟨#[32,9,13,10,12]⟩ [32,9,13,10,12] rfl c _ rfl _).mono ?_;rintro e w' ⟨i,rfl,hi8,hw'⟩;have hi9:Hid (decide (0≤i) = spB c):=hi8;clear hi8;have hw'':=hw'.symm;subst hw'')
 go_ret
 exact ⟨ret_bool hi9.out,rfl⟩
set_option maxHeartbeats 1000000 in
theorem letter_any (c:UInt8) (cc:Int) (e:cc = (c.toNat:Int)) (w:World) :
  Calls Tryz.prog 169 #[.int .u8 cc] w fun e w'=>e = .returned (.bool (letB c))∧w' = w:=by
 subst e
 obtain ⟨n,hn⟩:∃ n,n = c.toNat:=⟨_,rfl⟩
 have HL:Hid (letB c = ((decide (97≤n) && decide (n≤122)) || (decide (65≤n) && decide (n≤90)))):=by unfold Hid;rw [hn];rfl
 rw [← hn]
 clear hn
 by_cases h1:97≤n
 ·have h1':(97:Int)≤(n:Int):=by omega
  by_cases h2:n≤122
  ·have h2':(n:Int)≤122:=by omega
   go_enter Tryz.func169,Tryz.ntmps169
   go_wp2
   go_ret
   exact ⟨ret_bool (by rw [HL.out];simp [h1,h2]),rfl⟩
  ·have h2':¬ (n:Int)≤122:=by omega
   have h3':(65:Int)≤(n:Int):=by omega
   have h4':¬ (n:Int)≤90:=by omega
   go_enter Tryz.func169,Tryz.ntmps169
   go_wp2
   go_ret
   exact ⟨ret_bool (by rw [HL.out];simp;omega),rfl⟩
 ·have h1':¬ (97:Int)≤(n:Int):=by omega
  by_cases h3:65≤n
  ·have h3':(65:Int)≤(n:Int):=by omega
   by_cases h4:n≤90
   ·have h4':(n:Int)≤90:=by omega
    go_enter Tryz.func169,Tryz.ntmps169
    go_wp2
    go_ret
    exact ⟨ret_bool (by rw [HL.out];simp;omega),rfl⟩
   ·have h4':¬ (n:Int)≤90:=by omega
    go_enter Tryz.func169,Tryz.ntmps169
    go_wp2
    go_ret
    exact ⟨ret_bool (by rw [HL.out];simp;omega),rfl⟩
  ·have h3':¬ (65:Int)≤(n:Int):=by omega
   go_enter Tryz.func169,Tryz.ntmps169
   go_wp2
   go_ret
   exact ⟨ret_bool (by rw [HL.out];simp;omega),rfl⟩
set_option maxHeartbeats 2000000 in
theorem tag1_any (c:UInt8) (w:World):Calls Tryz.prog 171 #[.int .u8 (c.toNat:Int)] w fun e w'=>e = .returned (.bool (inName c))∧w' = w:=by
 have HS:Hid (∀ W,Calls Tryz.prog 172 #[.int .u8 (c.toNat:Int)] W fun e w'=>e = .returned (.bool (spB c))∧w' = W):=fun W=>space_any c _ rfl W
 by_cases h47:c = 47
 ·subst h47
  have hsp:spB 47 = false:=rfl
  rw [hsp] at HS
  go_enter Tryz.func171,Tryz.ntmps171
  go_wp2_with (go_at_call 172;refine (HS.out _).mono ?_;rintro e w' ⟨rfl,hw'⟩;have hw'':=hw'.symm;subst hw'')
  go_ret
  exact ⟨ret_bool (by decide),rfl⟩
 by_cases h62:c = 62
 ·subst h62
  have hsp:spB 62 = false:=rfl
  rw [hsp] at HS
  go_enter Tryz.func171,Tryz.ntmps171
  go_wp2_with (go_at_call 172;refine (HS.out _).mono ?_;rintro e w' ⟨rfl,hw'⟩;have hw'':=hw'.symm;subst hw'')
  go_ret
  exact ⟨ret_bool (by decide),rfl⟩
 have n47:¬ (c.toNat:Int) = 47:=ne_u8 (n:=47) (by decide) h47
 have n62:¬ (c.toNat:Int) = 62:=ne_u8 (n:=62) (by decide) h62
 have HT:Hid (spB c = true→inName c = false):=fun h=>by simp [inName,h]
 have HF:Hid (spB c = false→inName c = true):=fun h=>by simp [inName,h,h47,h62]
 clear h47 h62
 cases hs:spB c with
 | true =>
  rw [hs] at HS
  have HP:Hid (_ = _):=HT.out hs
  clear HT HF hs
  go_enter Tryz.func171,Tryz.ntmps171
  go_wp2_with (go_at_call 172;refine (HS.out _).mono ?_;rintro e w' ⟨rfl,hw'⟩;have hw'':=hw'.symm;subst hw'')
  go_ret
  exact ⟨ret_bool (by rw [HP.out]),rfl⟩
 | false =>
  rw [hs] at HS
  have HP:Hid (_ = _):=HF.out hs
  clear HT HF hs
  go_enter Tryz.func171,Tryz.ntmps171
  go_wp2_with (go_at_call 172;refine (HS.out _).mono ?_;rintro e w' ⟨rfl,hw'⟩;have hw'':=hw'.symm;subst hw'')
  go_ret
  exact ⟨ret_bool (by rw [HP.out];simp [n47,n62]),rfl⟩
set_option maxHeartbeats 2000000 in
theorem tag2_any (c:UInt8) (w:World):Calls Tryz.prog 173 #[.int .u8 (c.toNat:Int)] w fun e w'=>e = .returned (.bool (inGap c))∧w' = w:=by
 have HS:Hid (∀ W,Calls Tryz.prog 172 #[.int .u8 (c.toNat:Int)] W fun e w'=>e = .returned (.bool (spB c))∧w' = W):=fun W=>space_any c _ rfl W
 by_cases h47:c = 47
 ·subst h47
  have hsp:spB 47 = false:=rfl
  rw [hsp] at HS
  go_enter Tryz.func173,Tryz.ntmps173
  go_wp2_with (go_at_call 172;refine (HS.out _).mono ?_;rintro e w' ⟨rfl,hw'⟩;have hw'':=hw'.symm;subst hw'')
  go_ret
  exact ⟨ret_bool (by decide),rfl⟩
 have n47:¬ (c.toNat:Int) = 47:=ne_u8 (n:=47) (by decide) h47
 have HT:Hid (spB c = true→inGap c = true):=fun h=>by simp [inGap,h]
 have HF:Hid (spB c = false→inGap c = false):=fun h=>by simp [inGap,h,h47]
 clear h47
 cases hs:spB c with
 | true =>
  rw [hs] at HS
  have HP:Hid (_ = _):=HT.out hs
  clear HT HF hs
  go_enter Tryz.func173,Tryz.ntmps173
  go_wp2_with (go_at_call 172;refine (HS.out _).mono ?_;rintro e w' ⟨rfl,hw'⟩;have hw'':=hw'.symm;subst hw'')
  go_ret
  exact ⟨ret_bool (by rw [HP.out]),rfl⟩
 | false =>
  rw [hs] at HS
  have HP:Hid (_ = _):=HF.out hs
  clear HT HF hs
  go_enter Tryz.func173,Tryz.ntmps173
  go_wp2_with (go_at_call 172;refine (HS.out _).mono ?_;rintro e w' ⟨rfl,hw'⟩;have hw'':=hw'.symm;subst hw'')
  go_ret
  exact ⟨ret_bool (by rw [HP.out];simp [n47]),rfl⟩
set_option maxHeartbeats 2000000 in
theorem attr1_any (c:UInt8) (w:World):Calls Tryz.prog 201 #[.int .u8 (c.toNat:Int)] w fun e w'=>e = .returned (.bool (inAttr c))∧w' = w:=by
 have HS:Hid (∀ W,Calls Tryz.prog 172 #[.int .u8 (c.toNat:Int)] W fun e w'=>e = .returned (.bool (spB c))∧w' = W):=fun W=>space_any c _ rfl W
 by_cases h47:c = 47
 ·subst h47
  have hsp:spB 47 = false:=rfl
  rw [hsp] at HS
  go_enter Tryz.func201,Tryz.ntmps201
  go_wp2_with (go_at_call 172;refine (HS.out _).mono ?_;rintro e w' ⟨rfl,hw'⟩;have hw'':=hw'.symm;subst hw'')
  go_ret
  exact ⟨ret_bool (by decide),rfl⟩
 by_cases h62:c = 62
 ·subst h62
  have hsp:spB 62 = false:=rfl
  rw [hsp] at HS
  go_enter Tryz.func201,Tryz.ntmps201
  go_wp2_with (go_at_call 172;refine (HS.out _).mono ?_;rintro e w' ⟨rfl,hw'⟩;have hw'':=hw'.symm;subst hw'')
  go_ret
  exact ⟨ret_bool (by decide),rfl⟩
 by_cases h61:c = 61
 ·subst h61
  have hsp:spB 61 = false:=rfl
  rw [hsp] at HS
  go_enter Tryz.func201,Tryz.ntmps201
  go_wp2_with (go_at_call 172;refine (HS.out _).mono ?_;rintro e w' ⟨rfl,hw'⟩;have hw'':=hw'.symm;subst hw'')
  go_ret
  exact ⟨ret_bool (by decide),rfl⟩
 have n47:¬ (c.toNat:Int) = 47:=ne_u8 (n:=47) (by decide) h47
 have n62:¬ (c.toNat:Int) = 62:=ne_u8 (n:=62) (by decide) h62
 have n61:¬ (c.toNat:Int) = 61:=ne_u8 (n:=61) (by decide) h61
 have HT:Hid (spB c = true→inAttr c = false):=fun h=>by simp [inAttr,h]
 have HF:Hid (spB c = false→inAttr c = true):=fun h=>by simp [inAttr,h,h47,h62,h61]
 clear h47 h62 h61
 cases hs:spB c with
 | true =>
  rw [hs] at HS
  have HP:Hid (_ = _):=HT.out hs
  clear HT HF hs
  go_enter Tryz.func201,Tryz.ntmps201
  go_wp2_with (go_at_call 172;refine (HS.out _).mono ?_;rintro e w' ⟨rfl,hw'⟩;have hw'':=hw'.symm;subst hw'')
  go_ret
  exact ⟨ret_bool (by rw [HP.out]),rfl⟩
 | false =>
  rw [hs] at HS
  have HP:Hid (_ = _):=HF.out hs
  clear HT HF hs
  go_enter Tryz.func201,Tryz.ntmps201
  go_wp2_with (go_at_call 172;refine (HS.out _).mono ?_;rintro e w' ⟨rfl,hw'⟩;have hw'':=hw'.symm;subst hw'')
  go_ret
  exact ⟨ret_bool (by rw [HP.out];simp [n47,n62,n61]),rfl⟩
set_option maxHeartbeats 2000000 in
theorem val1_any (c:UInt8) (w:World):Calls Tryz.prog 212 #[.int .u8 (c.toNat:Int)] w fun e w'=>e = .returned (.bool (inBare c))∧w' = w:=by
 have HS:Hid (∀ W,Calls Tryz.prog 172 #[.int .u8 (c.toNat:Int)] W fun e w'=>e = .returned (.bool (spB c))∧w' = W):=fun W=>space_any c _ rfl W
 by_cases h62:c = 62
 ·subst h62
  have hsp:spB 62 = false:=rfl
  rw [hsp] at HS
  go_enter Tryz.func212,Tryz.ntmps212
  go_wp2_with (go_at_call 172;refine (HS.out _).mono ?_;rintro e w' ⟨rfl,hw'⟩;have hw'':=hw'.symm;subst hw'')
  go_ret
  exact ⟨ret_bool (by decide),rfl⟩
 have n62:¬ (c.toNat:Int) = 62:=ne_u8 (n:=62) (by decide) h62
 have HT:Hid (spB c = true→inBare c = false):=fun h=>by simp [inBare,h]
 have HF:Hid (spB c = false→inBare c = true):=fun h=>by simp [inBare,h,h62]
 clear h62
 cases hs:spB c with
 | true =>
  rw [hs] at HS
  have HP:Hid (_ = _):=HT.out hs
  clear HT HF hs
  go_enter Tryz.func212,Tryz.ntmps212
  go_wp2_with (go_at_call 172;refine (HS.out _).mono ?_;rintro e w' ⟨rfl,hw'⟩;have hw'':=hw'.symm;subst hw'')
  go_ret
  exact ⟨ret_bool (by rw [HP.out]),rfl⟩
 | false =>
  rw [hs] at HS
  have HP:Hid (_ = _):=HF.out hs
  clear HT HF hs
  go_enter Tryz.func212,Tryz.ntmps212
  go_wp2_with (go_at_call 172;refine (HS.out _).mono ?_;rintro e w' ⟨rfl,hw'⟩;have hw'':=hw'.symm;subst hw'')
  go_ret
  exact ⟨ret_bool (by rw [HP.out];simp [n62]),rfl⟩
set_option maxHeartbeats 2000000 in
theorem val2_any (q c:UInt8) (g:Nat) (w:World) (hg:w.cell? ⟨g,0,none⟩ = some (.int .u8 (q.toNat:Int))):Calls Tryz.prog 213 #[.int .u8 (c.toNat:Int),.pointer (some ⟨g,0,none⟩)] w fun e w'=>e = .returned (.bool (notQ q c))∧w' = w:=by
 have HP:Hid (notQ q c = !((c.toNat:Int) == (q.toNat:Int))):=by
  unfold Hid notQ
  rw [bne]
  congr 1
  rw [Bool.eq_iff_iff]
  simp only [beq_iff_eq]
  exact ⟨fun h=>by rw [h],fun h=>UInt8.toNat_inj.1 (by omega)⟩
 go_enter Tryz.func213,Tryz.ntmps213
 go_wp2
 go_ret
 exact ⟨ret_bool (by rw [HP.out];rfl),rfl⟩
end Go.Proofs.YtbbfcbodhmeanaaGreatDoor



namespace Go.Proofs.YtbbfcbodhmeanaaGreatDoor
abbrev SG:=Bool × List UInt8
def flatS:List SG→List UInt8
 | []=>[]
 | x::ss=>x.2 ++ flatS ss
def leftsS:List SG→Nat→List LK
 | [],_=>[]
 | x::ss,k=>if x.1 = true then ((x.2 ++ flatS ss).length + k,x.2)::leftsS ss k else leftsS ss k
def okR (r r':List UInt8):Prop:=r' = r ∨ (r' ≠ []∧plainT r' = true)
def Rep:List SG→List SG→Prop
 | [],[]=>True
 | x::ss,y::ts=>x.1 = y.1∧(x.1 = true→okR x.2 y.2)∧(x.1 = false→y.2 = x.2)∧Rep ss ts
 | _,_=>False
theorem Rep.refl:∀ (ss:List SG),Rep ss ss
 | []=>trivial
 | _::ss=>⟨rfl,fun _=>.inl rfl,fun _=>rfl,Rep.refl ss⟩
theorem Rep.lit {t:List UInt8} {ss ts:List SG} (h:Rep ((false,t)::ss) ts):∃ us,ts = (false,t)::us∧Rep ss us:=by
 cases ts with
 | nil=>exact h.elim
 | cons y us =>
  obtain ⟨h1,_,h3,h4⟩:=h
  obtain ⟨b,u⟩:=y
  have h1':false = b:=h1
  have h3':u = t:=h3 rfl
  subst h1';subst h3'
  exact ⟨us,rfl,h4⟩
theorem Rep.val {t:List UInt8} {ss ts:List SG} (h:Rep ((true,t)::ss) ts):∃ u us,ts = (true,u)::us∧okR t u∧Rep ss us:=by
 cases ts with
 | nil=>exact h.elim
 | cons y us =>
  obtain ⟨h1,h2,_,h4⟩:=h
  obtain ⟨b,u⟩:=y
  have h1':true = b:=h1
  have h2':okR t u:=h2 rfl
  subst h1'
  exact ⟨u,us,rfl,h2',h4⟩
theorem Rep.nil {ts:List SG} (h:Rep [] ts):ts = []:=by
 cases ts with
 | nil=>rfl
 | cons y us=>exact h.elim
theorem Rep.app:∀ {a b cs:List SG},Rep (a ++ b) cs→∃ a' b',cs = a' ++ b'∧Rep a a'∧Rep b b'
 | [],b,cs,h=>⟨[],cs,rfl,trivial,h⟩
 | x::a,b,[],h=>h.elim
 | x::a,b,y::cs,h=>by
  obtain ⟨h1,h2,h3,h4⟩:=h
  obtain ⟨a',b',e,h5,h6⟩:=Rep.app h4
  exact ⟨y::a',b',by rw [e];rfl,⟨h1,h2,h3,h5⟩,h6⟩
theorem flat_app:∀ (a b:List SG),flatS (a ++ b) = flatS a ++ flatS b
 | [],b=>rfl
 | x::a,b=>by simp [flatS,flat_app a b]
theorem lefts_app:∀ (a b:List SG) (k:Nat),leftsS (a ++ b) k = leftsS a ((flatS b).length + k) ++ leftsS b k
 | [],b,k=>rfl
 | x::a,b,k=>by
  rw [List.cons_append,leftsS,leftsS,lefts_app a b k]
  split
  ·rw [flat_app];simp;omega
  ·rfl
def Stops (p:UInt8→Bool) (X:List UInt8):Prop:=∀ y,X.head? = some y→p y = false
theorem tw_all (p:UInt8→Bool):∀ (s:List UInt8),∀ c ∈ s.takeWhile p,p c = true
 | [],_,h=>by simp at h
 | x::s,c,h=>by
  rw [List.takeWhile_cons] at h
  split at h
  ·rcases List.mem_cons.1 h with rfl | h
   ·assumption
   ·exact tw_all p s c h
  ·simp at h
theorem tw_dw (p:UInt8→Bool) (s:List UInt8):s.takeWhile p ++ s.dropWhile p = s:=List.takeWhile_append_dropWhile
theorem dw_stops (p:UInt8→Bool):∀ (s:List UInt8),Stops p (s.dropWhile p)
 | [],y,h=>by simp at h
 | x::s,y,h=>by
  rw [List.dropWhile_cons] at h
  split at h
  ·exact dw_stops p s y h
  ·rename_i hx;simp at h;subst h;simpa using hx
theorem tw_app (p:UInt8→Bool):∀ (a X:List UInt8),(∀ c ∈ a,p c = true)→Stops p X→(a ++ X).takeWhile p = a∧(a ++ X).dropWhile p = X
 | [],[],_,_=>⟨rfl,rfl⟩
 | [],y::X,_,h=>by
  have:=h y rfl
  simp [this]
 | x::a,X,ha,h=>by
  have h1:=ha x (by simp)
  obtain ⟨h2,h3⟩:=tw_app p a X (fun c hc=>ha c (by simp [hc])) h
  simp [h1,h2,h3]
theorem stops_head {p:UInt8→Bool} {X Y:List UInt8} (h:Stops p X) (e:Y.head? = X.head?):Stops p Y:=fun y hy=>h y (e ▸ hy)
theorem sp_facts {c:UInt8} (h:spB c = true):inAttr c = false∧inName c = false∧inBare c = false∧inGap c = true:=by
 simp [inAttr,inName,inBare,inGap,h]
theorem okT_facts {c:UInt8} (h:okT c = true):inBare c = true∧spB c = false∧qB c = false∧c ≠ 38:=by
 have hc:∀ x:UInt8,c = x→okT x = true:=fun x e=>e ▸ h
 have n:∀ x:UInt8,okT x = false→c ≠ x:=fun x hx e=>by have:=hc x e;rw [hx] at this;cases this
 have a1:=n 32 (by decide);have a2:=n 9 (by decide);have a3:=n 13 (by decide);have a4:=n 10 (by decide);have a5:=n 12 (by decide)
 have b1:=n 62 (by decide);have b2:=n 34 (by decide);have b3:=n 39 (by decide);have b4:=n 38 (by decide)
 have hs:spB c = false:=by simp [spB,a1,a2,a3,a4,a5]
 exact ⟨by simp [inBare,hs,b1],hs,by simp [qB,b2,b3],b4⟩
theorem okT_quote {c q:UInt8} (h:okT c = true) (hq:qB q = true):notQ q c = true:=by
 have h1:=(okT_facts h).2.2.1
 simp only [notQ,bne_iff_ne]
 rintro rfl
 rw [hq] at h1
 cases h1
def NoVal (s r:List UInt8):Prop:=∃ c pre,s = (c::pre) ++ r∧∀ X:List UInt8,X.head? = r.head?→nameP ((c::pre) ++ X) = nameP s∧attrP ((c::pre) ++ X) = (none,X)
def HasVal (s r:List UInt8) (v:LK):Prop:=∃ c pre raw post,s = (c::pre) ++ (raw ++ (post ++ r))∧v = ((raw ++ (post ++ r)).length,raw) ∧
 ∀ raw' X:List UInt8,okR raw raw'→X.head? = r.head?→nameP ((c::pre) ++ (raw' ++ (post ++ X))) = nameP s∧attrP ((c::pre) ++ (raw' ++ (post ++ X))) = (some ((raw' ++ (post ++ X)).length,raw'),X)
theorem name_cons (c:UInt8) (t:List UInt8):nameP (c::t) = c::t.takeWhile inAttr:=rfl
theorem attr_cons (c:UInt8) (t:List UInt8):attrP (c::t) = behP ((t.dropWhile inAttr).dropWhile spB):=rfl
theorem attr_at (c:UInt8) (a sp X:List UInt8) (ha:∀ x ∈ a,inAttr x = true) (hsp:∀ x ∈ sp,spB x = true) (h1:Stops inAttr X) (h2:Stops spB X) :
  nameP ((c::(a ++ sp)) ++ X) = c::a∧attrP ((c::(a ++ sp)) ++ X) = behP X:=by
 have hst:Stops inAttr (sp ++ X):=by
  cases sp with
  | nil=>exact h1
  | cons x sp=>intro y hy;simp at hy;subst hy;exact (sp_facts (hsp x (by simp))).1
 obtain ⟨e1,e2⟩:=tw_app inAttr a (sp ++ X) ha hst
 obtain ⟨e3,e4⟩:=tw_app spB sp X hsp h2
 rw [List.cons_append,name_cons,attr_cons,List.append_assoc,e1,e2,e4]
 exact ⟨rfl,rfl⟩
theorem beh_val (sp2 Y:List UInt8) (hsp:∀ x ∈ sp2,spB x = true) (h:Stops spB Y):behP (61::(sp2 ++ Y)) = (some ((valP Y).1.length,(valP Y).2.1),(valP Y).2.2):=by
 obtain ⟨_,e⟩:=tw_app spB sp2 Y hsp h
 simp only [behP,e]
 rfl
theorem attr_seg (c:UInt8) (t:List UInt8) (v:Option LK) (r:List UInt8) (h:attrP (c::t) = (v,r)) (hr:r ≠ []) :
  (v = none∧NoVal (c::t) r) ∨ ∃ x,v = some x∧HasVal (c::t) r x:=by
 have es:=tw_dw inAttr t
 have ha:=tw_all inAttr t
 have hst:=dw_stops inAttr t
 rw [attr_cons] at h
 generalize t.takeWhile inAttr = a at es ha
 generalize t.dropWhile inAttr = r1 at es hst h
 have es2:=tw_dw spB r1
 have hsp:=tw_all spB r1
 have hst2:=dw_stops spB r1
 have hin:r1.takeWhile spB = []→Stops inAttr (r1.dropWhile spB):=by
  intro e;rw [e,List.nil_append] at es2;rw [es2];exact hst
 generalize r1.takeWhile spB = sp at es2 hsp hin
 generalize r1.dropWhile spB = r2 at es2 hst2 h hin
 subst es2;subst es
 have hnm:∀ X:List UInt8,X.head? = r2.head?→nameP ((c::(a ++ sp)) ++ X) = c::a∧attrP ((c::(a ++ sp)) ++ X) = behP X:=by
  intro X hX
  have h2:Stops spB X:=stops_head hst2 hX
  cases sp with
  | nil=>exact attr_at c a [] X ha hsp (stops_head (hin rfl) hX) h2
  | cons x sp =>
   have hst':Stops inAttr ((x::sp) ++ X):=by intro y hy;simp at hy;subst hy;exact (sp_facts (hsp x (by simp))).1
   obtain ⟨e1,e2⟩:=tw_app inAttr a ((x::sp) ++ X) ha hst'
   obtain ⟨e3,e4⟩:=tw_app spB (x::sp) X hsp h2
   rw [List.cons_append,name_cons,attr_cons,List.append_assoc,e1,e2,e4]
   exact ⟨rfl,rfl⟩
 have hs:c::(a ++ (sp ++ r2)) = (c::(a ++ sp)) ++ r2:=by simp
 have hn:=(hnm r2 rfl).1
 rw [← hs] at hn
 cases r2 with
 | nil=>simp only [behP,Prod.mk.injEq] at h;exact absurd h.2.symm hr
 | cons d u =>
  by_cases hd:d = 61
  ·subst hd
   right
   have es3:=tw_dw spB u
   have hsp3:=tw_all spB u
   have hst3:=dw_stops spB u
   have hb:behP (61::u) = (some ((valP (u.dropWhile spB)).1.length,(valP (u.dropWhile spB)).2.1),(valP (u.dropWhile spB)).2.2):=rfl
   rw [hb] at h
   generalize u.takeWhile spB = sp2 at es3 hsp3
   generalize u.dropWhile spB = u2 at es3 hst3 h
   subst es3
   simp only [Prod.mk.injEq] at h
   obtain ⟨h1,h2⟩:=h
   cases u2 with
   | nil=>exact absurd h2.symm hr
   | cons x u3 =>
    by_cases hq:qB x = true
    ·have hv:valP (x::u3) = (u3,u3.takeWhile (notQ x),(u3.dropWhile (notQ x)).drop 1):=by simp only [valP];rw [if_pos hq]
     rw [hv] at h1 h2
     simp only at h1 h2
     have es4:=tw_dw (notQ x) u3
     have hq4:=tw_all (notQ x) u3
     have hst4:=dw_stops (notQ x) u3
     generalize u3.takeWhile (notQ x) = raw at es4 hq4 h1
     generalize u3.dropWhile (notQ x) = r3 at es4 hst4 h2
     cases r3 with
     | nil=>exact absurd h2.symm hr
     | cons y r4 =>
      have hy:y = x:=by have:=hst4 y rfl;simpa [notQ] using this
      subst hy
      simp only [List.drop_one,List.tail_cons] at h2
      subst h2
      subst es4
      refine ⟨_,h1.symm,c,(a ++ sp) ++ (61::(sp2 ++ [y])),raw,[y],by simp,by simp,fun raw' X hk hX=>?_⟩
      have hall:∀ z ∈ raw',notQ y z = true:=by
       rcases hk with rfl | ⟨_,hp⟩
       ·exact hq4
       ·intro z hz;exact okT_quote (List.all_eq_true.1 hp z hz) hq
      have e0:(c::((a ++ sp) ++ (61::(sp2 ++ [y])))) ++ (raw' ++ ([y] ++ X)) = (c::(a ++ sp)) ++ (61::(sp2 ++ (y::(raw' ++ (y::X))))):=by simp
      rw [e0]
      obtain ⟨k1,k2⟩:=hnm (61::(sp2 ++ (y::(raw' ++ (y::X))))) rfl
      rw [k1,k2,hn]
      refine ⟨rfl,?_⟩
      rw [beh_val sp2 (y::(raw' ++ (y::X))) hsp3 (fun z hz=>by simp at hz;subst hz;exact hst3 _ rfl)]
      have hst5:Stops (notQ y) (y::X):=fun z hz=>by simp at hz;subst hz;simp [notQ]
      obtain ⟨k3,k4⟩:=tw_app (notQ y) raw' (y::X) hall hst5
      simp only [valP]
      rw [if_pos hq,k3,k4]
      simp
    ·have hv:valP (x::u3) = (x::u3,(x::u3).takeWhile inBare,(x::u3).dropWhile inBare):=by simp only [valP];rw [if_neg hq]
     rw [hv] at h1 h2
     simp only at h1 h2
     have hx3:=hst3 x rfl
     have es4:=tw_dw inBare (x::u3)
     have hb4:=tw_all inBare (x::u3)
     have hst4:=dw_stops inBare (x::u3)
     generalize hraw:(x::u3).takeWhile inBare = raw at es4 hb4 h1
     generalize (x::u3).dropWhile inBare = r3 at es4 hst4 h2
     subst h2
     refine ⟨_,h1.symm,c,(a ++ sp) ++ (61::sp2),raw,[],by simp [es4],by simp [es4],fun raw' X hk hX=>?_⟩
     have hall:(∀ z ∈ raw',inBare z = true)∧Stops qB (raw' ++ X)∧Stops spB (raw' ++ X):=by
      have hcase:raw' = raw→Stops qB (raw' ++ X)∧Stops spB (raw' ++ X):=by
       rintro rfl
       have hh:(raw' ++ X).head? = some x:=by
        cases raw' with
        | nil=>rw [List.nil_append,hX];rw [List.nil_append] at es4;rw [es4];rfl
        | cons z raw'=>rw [List.cons_append] at es4;simp only [List.cons_append,List.head?_cons];rw [List.cons.injEq] at es4;rw [es4.1]
       exact ⟨fun z hz=>by rw [hh] at hz;cases hz;simpa using hq,fun z hz=>by rw [hh] at hz;cases hz;exact hx3⟩
      rcases hk with rfl | ⟨hne,hp⟩
      ·exact ⟨hb4,hcase rfl⟩
      ·refine ⟨fun z hz=>(okT_facts (List.all_eq_true.1 hp z hz)).1,?_,?_⟩
       ·intro z hz
        cases raw' with
        | nil=>exact absurd rfl hne
        | cons z' raw'=>simp at hz;subst hz;exact (okT_facts (List.all_eq_true.1 hp _ (by simp))).2.2.1
       ·intro z hz
        cases raw' with
        | nil=>exact absurd rfl hne
        | cons z' raw'=>simp at hz;subst hz;exact (okT_facts (List.all_eq_true.1 hp _ (by simp))).2.1
     obtain ⟨g1,g2,g3⟩:=hall
     have e0:(c::((a ++ sp) ++ (61::sp2))) ++ (raw' ++ ([] ++ X)) = (c::(a ++ sp)) ++ (61::(sp2 ++ (raw' ++ X))):=by simp
     rw [e0]
     obtain ⟨k1,k2⟩:=hnm (61::(sp2 ++ (raw' ++ X))) rfl
     rw [k1,k2,hn]
     refine ⟨rfl,?_⟩
     rw [beh_val sp2 (raw' ++ X) hsp3 g3]
     obtain ⟨k3,k4⟩:=tw_app inBare raw' X g1 (stops_head hst4 hX)
     have hvv:valP (raw' ++ X) = (raw' ++ X,raw',X):=by
      cases hY:raw' ++ X with
      | nil =>
       have:raw' = []∧X = []:=by simpa using hY
       rw [this.1,this.2];rfl
      | cons z Z =>
       rw [hY] at k3 k4 g2
       simp only [valP]
       rw [if_neg (by rw [g2 z rfl];decide),k3,k4]
     rw [hvv]
     simp
  ·left
   simp only [behP] at h
   rw [if_neg hd] at h
   simp only [Prod.mk.injEq] at h
   obtain ⟨rfl,rfl⟩:=h
   refine ⟨rfl,c,a ++ sp,hs,fun X hX=>?_⟩
   obtain ⟨k1,k2⟩:=hnm X hX
   rw [k1,k2,hn]
   refine ⟨rfl,?_⟩
   cases X with
   | nil=>cases hX
   | cons z Z =>
    simp at hX
    subst hX
    simp only [behP]
    rw [if_neg hd]
end Go.Proofs.YtbbfcbodhmeanaaGreatDoor


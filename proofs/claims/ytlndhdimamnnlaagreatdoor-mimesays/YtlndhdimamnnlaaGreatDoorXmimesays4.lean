
import Derived.Test.YtlndhdimamnnlaaGreatDoorXmimesays3
import Derived.Lib.AsciiSet
import Derived.Laws.ResultCell
namespace Go.Proofs.YtlndhdimamnnlaaGreatDoor
open Go.RowKit
def PCells (w : World) (b o : Nat) (p : PT) (pb : Option Addr) (cb : Nat) (pk : Option Addr) (ck : Nat) : Prop :=
 w.cell? ⟨b, o, none⟩ = some (.string p.ty) ∧ w.cell? ⟨b, o + 1, none⟩ = some (.string p.cs) ∧ w.cell? ⟨b, o + 2, none⟩ = some (.string p.id) ∧ w.cell? ⟨b, o + 3, none⟩ = some (.string p.loc) ∧
 w.cell? ⟨b, o + 4, none⟩ = some (.int .i64 p.how) ∧ w.cell? ⟨b, o + 5, none⟩ = some (.slice pb p.body.length cb) ∧ w.cell? ⟨b, o + 6, none⟩ = some (.slice pk p.kids.length ck)
def PLen (p : PT) : Prop :=
 p.ty.size ≤ maxLen ∧ p.cs.size ≤ maxLen ∧ p.id.size ≤ maxLen ∧ p.loc.size ≤ maxLen ∧ -9223372036854775808 ≤ p.how ∧ p.how ≤ 9223372036854775807 ∧ p.body.length ≤ maxLen ∧ p.kids.length ≤ maxLen
def PHeldK (K : Option Addr → List PT → Prop) (w : World) (p : PT) (pb : Option Addr) (cb : Nat) (pk : Option Addr) (ck : Nat) : Prop :=
 PLen p ∧ (p.body.length ≤ cb ∧ cb ≤ maxLen ∧ (pb = none → cb = 0)) ∧ BRow w pb p.body ∧ (p.kids.length ≤ ck ∧ ck ≤ maxLen ∧ (pk = none → ck = 0)) ∧ K pk p.kids
def KAt (w : World) : Nat → Option Addr → List PT → Prop
 | 0, _, l => l = []
 | f + 1, a, l => l ≠ [] → ∃ b o, a = some ⟨b, o, none⟩ ∧ ∀ i, i < l.length → ∃ pb cb pk ck, PCells w b (o + i * 7) (l.getD i pt0) pb cb pk ck ∧ PHeldK (KAt w f) w (l.getD i pt0) pb cb pk ck
def PHeld (w : World) (f : Nat) (p : PT) (pb : Option Addr) (cb : Nat) (pk : Option Addr) (ck : Nat) : Prop := PHeldK (KAt w f) w p pb cb pk ck
def PAt (w : World) (f : Nat) (b o : Nat) (p : PT) : Prop := ∃ pb cb pk ck, PCells w b o p pb cb pk ck ∧ PHeld w f p pb cb pk ck
theorem KAt.each {w : World} {f : Nat} {a : Option Addr} {l : List PT} (h : KAt w (f + 1) a l) (hne : l ≠ []) : ∃ b o, a = some ⟨b, o, none⟩ ∧ ∀ i, i < l.length → PAt w f b (o + i * 7) (l.getD i pt0) := by
 obtain ⟨b, o, e, hc⟩ := h hne
 exact ⟨b, o, e, fun i hi => hc i hi⟩
theorem KAt.mk {w : World} {f b o : Nat} {l : List PT} (h : ∀ i, i < l.length → PAt w f b (o + i * 7) (l.getD i pt0)) : KAt w (f + 1) (some ⟨b, o, none⟩) l := fun _ => ⟨b, o, rfl, fun i hi => h i hi⟩
theorem KAt.nil (w : World) (f : Nat) (a : Option Addr) : KAt w f a [] := by
 cases f with
 | zero => rfl
 | succ f => exact fun h => absurd rfl h
theorem BRow.under {w w' : World} {p : Option Addr} {l : List UInt8} (h : BRow w p l) (hb : Below w.heap.size w w') : BRow w' p l := by
 intro hne
 obtain ⟨b, o, rfl, hc⟩ := h hne
 refine ⟨b, o, rfl, fun i hi => ?_⟩
 have := hc i hi
 rw [hb.cell (p := ⟨b, o + i, none⟩) (World.block_lt_of_cell? w _ this)]
 exact this
theorem PCells.below {w w' : World} {b o : Nat} {p : PT} {pb : Option Addr} {cb : Nat} {pk : Option Addr} {ck : Nat} (h : PCells w b o p pb cb pk ck) (hb : Below w.heap.size w w') : PCells w' b o p pb cb pk ck := by
 obtain ⟨h0, h1, h2, h3, h4, h5, h6⟩ := h
 have hl := World.block_lt_of_cell? w _ h0
 refine ⟨?_, ?_, ?_, ?_, ?_, ?_, ?_⟩
 ·rw [hb.cell (p := ⟨b, o, none⟩) hl]; exact h0
 ·rw [hb.cell (p := ⟨b, o + 1, none⟩) hl]; exact h1
 ·rw [hb.cell (p := ⟨b, o + 2, none⟩) hl]; exact h2
 ·rw [hb.cell (p := ⟨b, o + 3, none⟩) hl]; exact h3
 ·rw [hb.cell (p := ⟨b, o + 4, none⟩) hl]; exact h4
 ·rw [hb.cell (p := ⟨b, o + 5, none⟩) hl]; exact h5
 ·rw [hb.cell (p := ⟨b, o + 6, none⟩) hl]; exact h6
theorem PHeldK.mono {K K' : Option Addr → List PT → Prop} {w w' : World} {p : PT} {pb : Option Addr} {cb : Nat} {pk : Option Addr} {ck : Nat} (h : PHeldK K w p pb cb pk ck) (hb : Below w.heap.size w w') (hK : ∀ a l, K a l → K' a l) : PHeldK K' w' p pb cb pk ck :=
 ⟨h.1, h.2.1, h.2.2.1.under hb, h.2.2.2.1, hK _ _ h.2.2.2.2⟩
theorem KAt.below {w w' : World} (hb : Below w.heap.size w w') : ∀ (f : Nat) (a : Option Addr) (l : List PT), KAt w f a l → KAt w' f a l
 | 0, _, _, h => h
 | f + 1, a, l, h => fun hne => by
  obtain ⟨b, o, e, hc⟩ := h hne
  refine ⟨b, o, e, fun i hi => ?_⟩
  obtain ⟨pb, cb, pk, ck, h1, h2⟩ := hc i hi
  exact ⟨pb, cb, pk, ck, h1.below hb, h2.mono hb (KAt.below hb f)⟩
theorem PHeld.below {w w' : World} {f : Nat} {p : PT} {pb : Option Addr} {cb : Nat} {pk : Option Addr} {ck : Nat} (h : PHeld w f p pb cb pk ck) (hb : Below w.heap.size w w') : PHeld w' f p pb cb pk ck := PHeldK.mono h hb (KAt.below hb f)
theorem PAt.below {w w' : World} {f b o : Nat} {p : PT} (h : PAt w f b o p) (hb : Below w.heap.size w w') : PAt w' f b o p := by
 obtain ⟨pb, cb, pk, ck, h1, h2⟩ := h
 exact ⟨pb, cb, pk, ck, h1.below hb, h2.below hb⟩
theorem PAt.lt {w : World} {f b o : Nat} {p : PT} (h : PAt w f b o p) : b < w.heap.size := by
 obtain ⟨pb, cb, pk, ck, h1, h2⟩ := h
 exact World.block_lt_of_cell? w _ h1.1
end Go.Proofs.YtlndhdimamnnlaaGreatDoor



namespace Go.Proofs.YtlndhdimamnnlaaGreatDoor
open Go.RowKit
theorem bsize256 : (Tryz.prog.info? 139).map (·.size) = some 256 := by kernel_rfl
theorem wp_load_of {P : Program} {o : Oper} {a : Act} {w : World} {K : Act → World → Prop} {Q : Exit → Act → World → Prop} {t : TypeId} {x : Operand} {u v : Value} (hop : o.op = Op.load t x) (hx : a.eval x = u) (hl : (Instr.loadAt t u).run P w = .ok v w) (hK : K (a.put o.dst v) w) : Oper.wp P o a w K Q := by
 unfold Oper.wp
 simp [execOp, hop, hx, hl, Result.andThen]
 exact hK
theorem load256 (w : World) (SA : Array Value) (hsz : SA.size = 256) : (Instr.loadAt 139 (.pointer (some ⟨w.heap.size, 0, none⟩))).run Tryz.prog (w.alloc (.cells SA 139)) = .ok (.agg SA) (w.alloc (.cells SA 139)) := by
 have hld := run_loadVar_new (P := Tryz.prog) w 139 SA 256 4 Tryz.underlying139 (by rw [hsz]; exact bsize256)
 simp [Instr.loadAt, Instr.sureAddr, hld]
set_option maxHeartbeats 4000000 in
set_option maxRecDepth 1000000 in
theorem bmake_set (chars : ByteArray) (w : World) (hs : chars.size ≤ 1000) (hascii : ∀ (j : Nat) b, chars.data.toList[j]? = some b → b.toNat < 128) :
  Calls Tryz.prog 110 #[.string chars] w fun e w' => e = .returned (.tuple #[.agg (Lib.setCells chars.data.toList), .bool true]) ∧ w' = w.alloc (.cells (Lib.setCells chars.data.toList) 139) := by
 have HA : Hid (∀ (j : Nat) b, chars.data.toList[j]? = some b → b.toNat < 128) := hascii
 clear hascii
 go_enter Tryz.func110, Tryz.ntmps110
 go_wp2
 have e0 : Tryz.zeroCells139 = Lib.setCells [] := by kernel_rfl
 rw [e0]
 go_loopg [4] chars.size (fun g s4 wx => ∃ i : Nat, i + g = chars.size ∧ s4 = .int .i64 i ∧ wx = w.alloc (.cells (Lib.setCells (chars.data.toList.take i)) 139))
 case atStart => exact ⟨0, by omega, rfl, rfl⟩
 case round =>
  obtain ⟨i, hig, rfl, rfl⟩ := hrel
  clear e0
  cases gk with
  | zero =>
   obtain rfl : i = chars.size := by omega
   have hiz : ¬ ((chars.size : Int) < (chars.size : Int)) := by omega
   rw [show chars.data.toList.take chars.size = chars.data.toList from List.take_of_length_le (by rw [← Lib.size_eq]; exact Nat.le_refl _)]
   have hsz := Lib.setCells_size chars.data.toList
   have hld := run_loadVar_new (P := Tryz.prog) w 139 (Lib.setCells chars.data.toList) 256 4 Tryz.underlying139 (by rw [hsz]; exact bsize256)
   have hsc := run_storeCells_new (P := Tryz.prog) w 139 (Lib.setCells chars.data.toList) (Lib.setCells chars.data.toList) (by rw [hsz]; exact bsize256) rfl (Lib.setCells_one _)
   go_wp2_with fail
   refine wp_load_of rfl rfl (load256 w _ hsz) ?_
   go_wp2_with fail
   refine bodyPost_ret (v := .tuple #[.agg (Lib.setCells chars.data.toList), .bool true]) ?_ rfl ⟨rfl, rfl⟩
   rw [results_cell_tmp rfl]
   simp [asAddr, Result.andThen, hld]
  | succ g =>
   have hi : i < chars.size := by omega
   have hiz : (i : Int) < (chars.size : Int) := by omega
   obtain ⟨x, hx⟩ : ∃ x : UInt8, chars[i]'hi = x := ⟨_, rfl⟩
   have hxl : chars.data.toList[i]? = some x := by rw [← hx]; exact Lib.data_getElem? chars i hi
   have hx128 : ¬ ((128 : Int) ≤ (x.toNat : Int)) := by have := HA.out i x hxl; omega
   have hx256 : (x.toNat : Int) < 256 := by have := HA.out i x hxl; omega
   have hcell := Lib.setCells_at (chars.data.toList.take i) x
   have Hx : Hid (chars.data.toList[i]? = some x) := hxl
   clear hxl
   go_wp2_with fail
   go_roundg g
   case measure => omega
   case rel => exact ⟨i + 1, by omega, by go_num, by rw [List.take_add_one, Hx.out]; simp only [Option.toList]; rw [Lib.setCells_snoc]⟩
theorem bin_set (g : Nat) (c : UInt8) (cc : Int) (e : cc = (c.toNat : Int)) (v : Bool) (w : World) (hc : w.cell? ⟨g, c.toNat, none⟩ = some (.bool v)) :
  Calls Tryz.prog 159 #[.pointer (some ⟨g, 0, none⟩), .int .u8 cc] w fun e w' => e = .returned (.bool v) ∧ w' = w := by
 subst e
 have := c.toNat_lt
 go_enter Tryz.func159, Tryz.ntmps159
 go_wp2
 go_ret
 exact ⟨rfl, rfl⟩
theorem drop_take (L : List UInt8) (k : Nat) (h : k < L.length) : L.take (k + 1) = L.take k ++ [L[k]] := by
 rw [List.take_add_one, List.getElem?_eq_getElem h]; rfl
set_option maxHeartbeats 1000000 in
theorem bright_set (p : UInt8 → Bool) (g b o cap : Nat) (L : List UInt8) (w : World) (hs : L.length ≤ 1000000000) (hcap : L.length ≤ cap) (hg : ∀ c : UInt8, w.cell? ⟨g, c.toNat, none⟩ = some (.bool (p c))) (hr : ∀ i, i < L.length → w.cell? ⟨b, o + i, none⟩ = some (.int .u8 ((L.getD i 0).toNat : Int))) :
  Calls Tryz.prog 111 #[.slice (some ⟨b, o, none⟩) L.length cap, .pointer (some ⟨g, 0, none⟩)] w fun e w' => e = .returned (.slice (some ⟨b, o, none⟩) (dropEnd p L).length cap) ∧ w' = w := by
 have HG : Hid (∀ c : UInt8, w.cell? ⟨g, c.toNat, none⟩ = some (.bool (p c))) := hg
 have HR : Hid (∀ i, i < L.length → w.cell? ⟨b, o + i, none⟩ = some (.int .u8 ((L.getD i 0).toNat : Int))) := hr
 clear hg hr
 obtain ⟨N, hN⟩ : ∃ N, L.length = N := ⟨_, rfl⟩
 have HN : Hid (L.length = N) := hN
 rw [hN] at hs hcap ⊢
 clear hN
 obtain ⟨R, hR⟩ : ∃ R, (dropEnd p L).length = R := ⟨_, rfl⟩
 have HRR : Hid ((dropEnd p L).length = R) := hR
 rw [hR]
 clear hR
 go_enter Tryz.func111, Tryz.ntmps111
 go_wp2
 go_loopg [0] N (fun k v wr => v = .slice (some ⟨b, o, none⟩) k cap ∧ k ≤ N ∧ wr = w ∧ Hid (dropEnd p (L.take k) = dropEnd p L))
 case atStart => exact ⟨rfl, Nat.le_refl _, rfl, by unfold Hid; rw [List.take_of_length_le (by rw [HN.out]; exact Nat.le_refl _)]⟩
 case round =>
  obtain ⟨rfl, hk, rfl, HT⟩ := hrel
  cases gk with
  | zero =>
   have HE : Hid (R = 0) := by unfold Hid; rw [← HRR.out, ← HT.out]; rfl
   clear HT HRR
   go_wp2
   go_ret
   exact ⟨by rw [HE.out]; rfl, rfl⟩
  | succ k =>
   have hkl : k < L.length := by rw [HN.out]; omega
   have hcl : wr.cell? ⟨b, o + k, none⟩ = some (.int .u8 ((L[k]).toNat : Int)) := by
    have := HR.out k hkl
    rw [List.getD_eq_getElem?_getD, List.getElem?_eq_getElem hkl] at this
    exact this
   have htk := drop_take L k hkl
   have hcell := HG.out L[k]
   generalize L[k] = c at *
   have hkw : IntKind.i64.wrap (((k + 1 : Nat) : Int) - 1) = (k : Int) := by rw [IntKind.wrap_i64]; omega
   cases hb : p c
   ·have HE : Hid (R = k + 1) := by
     unfold Hid
     rw [← HRR.out, ← HT.out, htk, dropEnd_no p _ _ hb, List.length_append, List.length_take, Nat.min_eq_left (by omega)]
     rfl
    rw [hb] at hcell
    clear hb htk HT HRR
    go_wp2_with (go_at_call 159; refine (bin_set g c _ rfl false _ hcell).mono ?_; rintro e w' ⟨rfl, hw'⟩; have hw'' := hw'.symm; subst hw'')
    go_ret
    exact ⟨by rw [HE.out]; rfl, rfl⟩
   ·have HE : Hid (dropEnd p (L.take k) = dropEnd p L) := by
     unfold Hid
     rw [← HT.out, htk]
     exact (dropEnd_yes p _ _ hb).symm
    rw [hb] at hcell
    clear hb htk HT
    go_wp2_with (go_at_call 159; refine (bin_set g c _ rfl true _ hcell).mono ?_; rintro e w' ⟨rfl, hw'⟩; have hw'' := hw'.symm; subst hw'')
    go_roundg k
    case measure => omega
    case rel => exact ⟨rfl, by omega, rfl, HE⟩
end Go.Proofs.YtlndhdimamnnlaaGreatDoor



namespace Go.Proofs.YtlndhdimamnnlaaGreatDoor
def endC (c : UInt8) : Bool := [32, 9, 13, 10].contains c
def bareL (l : List UInt8) : List UInt8 := dropEnd endC l
def lineN : List UInt8 → Nat
 | [] => 0
 | c :: r => if c = 10 then 1 else lineN r + 1
def noEnd (c : UInt8) (l : List UInt8) : List UInt8 := if l.getLast? = some c then l.dropLast else l
def stripE (l : List UInt8) : List UInt8 := noEnd 13 (noEnd 10 l)
def dd : List UInt8 := [45, 45]
def closed (cur : Option (List UInt8)) (out : List (List UInt8)) : List (List UInt8) := match cur with | none => out | some c => out ++ [stripE c]
def splitGo (border : List UInt8) : Nat → List UInt8 → Option (List UInt8) → List (List UInt8) → Option (List (List UInt8))
 | 0, _, _, _ => none
 | f + 1, rest, cur, out =>
  if rest = [] then none
  else if bareL (rest.take (lineN rest)) = dd ++ border ++ dd then some (closed cur out)
  else if bareL (rest.take (lineN rest)) = dd ++ border then splitGo border f (rest.drop (lineN rest)) (some []) (closed cur out)
  else splitGo border f (rest.drop (lineN rest)) (cur.map (· ++ rest.take (lineN rest))) out
def splitS (b border : List UInt8) : List (List UInt8) × Nat :=
 if 40000 < b.length then ([], 2) else if border = [] ∨ 60 < border.length then ([], 3) else match splitGo border (b.length + 1) b none [] with | none => ([], 1) | some l => (l, 0)
theorem lineN_pos (l : List UInt8) (h : l ≠ []) : 1 ≤ lineN l := by
 cases l with
 | nil => exact absurd rfl h
 | cons c r => unfold lineN; split <;> omega
theorem lineN_le : ∀ l : List UInt8, lineN l ≤ l.length
 | [] => Nat.le_refl _
 | c :: r => by
  have := lineN_le r
  unfold lineN
  split <;> simp <;> omega
theorem index_ge : ∀ l : List UInt8, -1 ≤ Lib.indexByte l 10
 | [] => by simp [Lib.indexByte]
 | c :: r => by
  have := index_ge r
  unfold Lib.indexByte
  split
  ·omega
  ·split <;> omega
theorem lineN_index : ∀ l : List UInt8, (lineN l : Int) = if Lib.indexByte l 10 < 0 then (l.length : Int) else Lib.indexByte l 10 + 1
 | [] => by simp [lineN, Lib.indexByte]
 | c :: r => by
  have ih := lineN_index r
  have hg := index_ge r
  unfold lineN Lib.indexByte
  by_cases hc : c = 10
  ·subst hc; simp
  ·have hb : (c == 10) = false := by simpa using hc
   rw [if_neg hc, hb]
   by_cases hi : Lib.indexByte r 10 = -1
   ·rw [hi] at ih ⊢
    simp at ih ⊢
    omega
   ·have hn : ¬ Lib.indexByte r 10 < 0 := by omega
    have hb2 : (Lib.indexByte r 10 == -1) = false := by simpa using hi
    rw [if_neg hn] at ih
    rw [hb2]
    simp only [Bool.false_eq_true, if_false]
    rw [if_neg (by omega)]
    omega
theorem splitGo_nil (border : List UInt8) (f : Nat) (cur : Option (List UInt8)) (out : List (List UInt8)) : splitGo border f [] cur out = none := by
 cases f with
 | zero => rfl
 | succ f => rw [splitGo, if_pos rfl]
theorem dd_apart (border : List UInt8) : ¬ dd ++ border = dd ++ border ++ dd := fun h => by
 have := congrArg List.length h
 simp [dd] at this
end Go.Proofs.YtlndhdimamnnlaaGreatDoor



namespace Go.Proofs.YtlndhdimamnnlaaGreatDoor
open Go.RowKit
theorem conv_bytes (w : World) (p : Option Addr) (n c : Nat) (L : List UInt8) (en : n = L.length) (hr : BRow w p L) (hp : p = none → n = 0 ∧ c = 0) : (convert 22 9 (.slice p n c)).run Tryz.prog w = .ok (.string ⟨L.toArray⟩) w := by
 cases p with
 | none =>
  obtain ⟨h0, rfl⟩ := hp rfl
  subst h0
  obtain rfl : L = [] := List.length_eq_zero_iff.1 en.symm
  exact convert_nil w
 | some a =>
  subst en
  refine run_convert_bytes_back (P := Tryz.prog) w 22 9 5 a c L Tryz.underlying22 Tryz.underlying5 Tryz.underlying9 (fun j hj => ?_)
  obtain ⟨b, o, e, hc⟩ := hr (fun e => by rw [e] at hj; exact absurd hj (by simp))
  obtain rfl := Option.some.inj e
  rw [Addr.add_lit, hc j hj]
  simp [List.getD_eq_getElem?_getD, List.getElem?_eq_getElem hj]
end Go.Proofs.YtlndhdimamnnlaaGreatDoor



namespace Go.Proofs.YtlndhdimamnnlaaGreatDoor
open Go.RowKit
theorem dropB (s : ByteArray) (k : Nat) (h : k < s.size) : s.data.toList.drop k = s[k] :: s.data.toList.drop (k + 1) := by
 rw [List.drop_eq_getElem_cons (by simpa using h)]; rfl
theorem ix_any (s : ByteArray) (l : List UInt8) (hs : s.data.toList = l) (c : UInt8) (cc : Int) (e : cc = (c.toNat : Int)) (w : World) :
  Calls Tryz.prog 89 #[.string s, .int .u8 cc] w fun e w' => ∃ i : Int, e = .returned (.int .i64 i) ∧ decide (0 ≤ i) = l.contains c ∧ w' = w := by
 subst e hs
 refine (Tryz.strings_IndexByte s (c.toNat : Int) w).mono ?_
 rintro e w' ⟨rfl, rfl⟩
 refine ⟨_, rfl, ?_, rfl⟩
 rw [indexByte_mem]
 simp
end Go.Proofs.YtlndhdimamnnlaaGreatDoor



namespace Go.Proofs.YtlndhdimamnnlaaGreatDoor
open Go.RowKit
theorem tokc_any (c : UInt8) (w : World) : Calls Tryz.prog 197 #[.int .u8 (c.toNat : Int)] w fun e w' => e = .returned (.bool (inB 33 126 specials c)) ∧ w' = w := by
 by_cases h1 : 33 ≤ c.toNat
 ·have h1' : (33 : Int) ≤ (c.toNat : Int) := by omega
  by_cases h2 : c.toNat ≤ 126
  ·have h2' : (c.toNat : Int) ≤ 126 := by omega
   have HN : Hid (inB 33 126 specials c = !specials.contains c) := by unfold Hid inB; simp only [h1, h2]; simp
   have hi9 : ∀ i : Int, decide (0 ≤ i) = specials.contains c → decide (i < 0) = !specials.contains c := by
    intro i h; rw [← h]; by_cases hi : 0 ≤ i <;> simp [hi] <;> omega
   go_enter Tryz.func197, Tryz.ntmps197
   go_wp2_with fail
   refine (ix_any _ specials rfl c _ rfl _).mono ?_
   rintro e w' ⟨i, rfl, hi, hw'⟩
   have hw'' := hw'.symm
   subst hw''
   have h3 := hi9 i hi
   clear hi hi9
   go_wp2
   go_ret
   exact ⟨by rw [HN.out]; simp, rfl⟩
  ·have h2' : decide ((c.toNat : Int) ≤ 126) = false := by simp; omega
   have HN : Hid (inB 33 126 specials c = false) := by unfold Hid inB; simp only [h2]; simp
   go_enter Tryz.func197, Tryz.ntmps197
   go_wp2
   go_ret
   exact ⟨by rw [HN.out]; rfl, rfl⟩
 ·have h1' : decide ((33 : Int) ≤ (c.toNat : Int)) = false := by simp; omega
  have HN : Hid (inB 33 126 specials c = false) := by unfold Hid inB; simp only [h1]; simp
  go_enter Tryz.func197, Tryz.ntmps197
  go_wp2
  go_ret
  exact ⟨by rw [HN.out]; rfl, rfl⟩
def allB (p : UInt8 → Bool) (l : List UInt8) : Bool := l.all p
theorem allB_cons (p : UInt8 → Bool) (c : UInt8) (l : List UInt8) : allB p (c :: l) = (p c && allB p l) := rfl
def tokB : UInt8 → Bool := inB 33 126 specials
def valB : UInt8 → Bool := inB 32 126 []
set_option maxHeartbeats 1000000 in
theorem every_tok (s : ByteArray) (w : World) (hs : s.size ≤ 1000000) :
  Calls Tryz.prog 165 #[.string s, .func (Fn.func 197) #[] #[]] w fun e w' => e = .returned (.bool (allB tokB s.data.toList)) ∧ w' = w := by
 go_enter Tryz.func165, Tryz.ntmps165
 go_wp2
 go_loop [8] (fun iv => ∃ k : Nat, k ≤ s.size ∧ iv = .int .i64 k ∧ Hid (allB tokB (s.data.toList.drop k) = allB tokB s.data.toList)) (fun iv => s.size - (intOf iv).toNat)
 case atStart => exact ⟨0, Nat.zero_le _, rfl, rfl⟩
 case round =>
  obtain ⟨k, hk, rfl, HK⟩ := hrel
  by_cases hlt : k < s.size
  ·have hdr : Hid (allB tokB (s.data.toList.drop k) = (tokB s[k] && allB tokB (s.data.toList.drop (k + 1)))) := by unfold Hid; rw [dropB s k hlt, allB_cons]
   cases hp : tokB s[k]
   ·have HN : Hid (allB tokB s.data.toList = false) := by unfold Hid; rw [← HK.out, hdr.out, hp]; rfl
    have C : Hid (∀ w, Calls Tryz.prog 197 #[.int .u8 (s[k].toNat : Int)] w fun e w' => e = .returned (.bool false) ∧ w' = w) := by intro w; rw [← hp]; exact tokc_any _ w
    clear hdr HK hp
    go_wp2_with fail
    refine (C.out _).mono ?_
    rintro e w' ⟨rfl, hw'⟩
    have hw'' := hw'.symm
    subst hw''
    go_wp2
    go_ret
    exact ⟨by rw [HN.out]; rfl, rfl⟩
   ·have HN : Hid (allB tokB (s.data.toList.drop (k + 1)) = allB tokB s.data.toList) := by unfold Hid; rw [← HK.out, hdr.out, hp]; rfl
    have C : Hid (∀ w, Calls Tryz.prog 197 #[.int .u8 (s[k].toNat : Int)] w fun e w' => e = .returned (.bool true) ∧ w' = w) := by intro w; rw [← hp]; exact tokc_any _ w
    clear hdr HK hp
    go_wp2_with fail
    refine (C.out _).mono ?_
    rintro e w' ⟨rfl, hw'⟩
    have hw'' := hw'.symm
    subst hw''
    go_wp2
    go_round
    case rel => exact ⟨k + 1, by omega, by go_num, HN⟩
    case measure => simp [intOf]; omega
  ·obtain rfl : k = s.size := by omega
   have HN : Hid (allB tokB s.data.toList = true) := by
    unfold Hid
    rw [← HK.out, List.drop_of_length_le (by rw [← Lib.size_eq]; exact Nat.le_refl _)]; rfl
   clear HK
   go_wp2
   go_ret
   exact ⟨by rw [HN.out]; rfl, rfl⟩
theorem htok_any (s : ByteArray) (w : World) (hs : s.size ≤ maxLen) :
  Calls Tryz.prog 150 #[.string s] w fun e w' => e = .returned (.bool (tokenS s.data.toList)) ∧ w' = w := by
 unfold maxLen at hs
 have hle := Lib.size_eq s
 by_cases h1 : 1 ≤ s.size
 ·have hne : s.toList.isEmpty = false := by
   rw [ByteArray.toList_eq]
   cases h : s.data.toList with
   | nil => rw [h, List.length_nil] at hle; omega
   | cons a b => rfl
  by_cases h2 : s.size ≤ 30
  ·have h2' : (s.size : Int) ≤ 30 := by omega
   have HN : Hid (tokenS s.data.toList = allB tokB s.data.toList) := by unfold Hid tokenS betw allB tokB; rw [← hle]; simp [h1, h2]
   clear hle
   go_enter Tryz.func150, Tryz.ntmps150
   go_wp2_with fail
   refine (every_tok s _ (by omega)).mono ?_
   rintro e w' ⟨rfl, hw'⟩
   have hw'' := hw'.symm
   subst hw''
   go_wp2
   go_ret
   exact ⟨by rw [HN.out]; rfl, rfl⟩
  ·have h2' : decide ((s.size : Int) ≤ 30) = false := by simp; omega
   have HN : Hid (tokenS s.data.toList = false) := by unfold Hid tokenS; rw [← hle]; simp; omega
   clear hle
   go_enter Tryz.func150, Tryz.ntmps150
   go_wp2
   go_ret
   exact ⟨by rw [HN.out]; rfl, rfl⟩
 ·obtain rfl : s = ⟨#[]⟩ := by
   apply ByteArray.ext; apply Array.toList_inj.1; exact List.length_eq_zero_iff.1 (by rw [← hle]; omega)
  clear hle h1 hs
  go_enter Tryz.func150, Tryz.ntmps150
  go_wp2
  go_ret
  exact ⟨rfl, rfl⟩
end Go.Proofs.YtlndhdimamnnlaaGreatDoor



namespace Go.Proofs.YtlndhdimamnnlaaGreatDoor
open Go.RowKit
set_option maxHeartbeats 1000000 in
theorem between_any (s but : ByteArray) (bl : List UInt8) (hbut : but.data.toList = bl) (lo hi : Nat) (loi hii : Int) (e1 : loi = (lo : Int)) (e2 : hii = (hi : Int)) (w : World) (hs : s.size ≤ 1000000) :
  Calls Tryz.prog 72 #[.string s, .int .u8 loi, .int .u8 hii, .string but] w fun e w' => e = .returned (.bool (betw lo hi bl s.data.toList)) ∧ w' = w := by
 subst e1 e2
 go_enter Tryz.func72, Tryz.ntmps72
 go_wp2
 go_loop [12] (fun iv => ∃ k : Nat, k ≤ s.size ∧ iv = .int .i64 k ∧ Hid (betw lo hi bl (s.data.toList.drop k) = betw lo hi bl s.data.toList)) (fun iv => s.size - (intOf iv).toNat)
 case atStart => exact ⟨0, Nat.zero_le _, rfl, rfl⟩
 case round =>
  obtain ⟨k, hk, rfl, HK⟩ := hrel
  by_cases hlt : k < s.size
  ·have hdr : Hid (betw lo hi bl (s.data.toList.drop k) = (inB lo hi bl s[k] && betw lo hi bl (s.data.toList.drop (k + 1)))) := by unfold Hid; rw [dropB s k hlt, betw_cons]
   by_cases h1 : s[k].toNat < lo
   ·have HN : Hid (betw lo hi bl s.data.toList = false) := by
     unfold Hid
     rw [← HK.out, hdr.out, show inB lo hi bl s[k] = false from by simp [inB]; omega]; rfl
    have h1' : (s[k].toNat : Int) < (lo : Int) := by omega
    clear hdr HK
    go_wp2
    go_ret
    exact ⟨by rw [HN.out]; rfl, rfl⟩
   ·have h1' : decide ((s[k].toNat : Int) < (lo : Int)) = false := by simp; omega
    by_cases h2 : hi < s[k].toNat
    ·have HN : Hid (betw lo hi bl s.data.toList = false) := by
      unfold Hid
      rw [← HK.out, hdr.out, show inB lo hi bl s[k] = false from by simp [inB]; omega]; rfl
     have h2' : (hi : Int) < (s[k].toNat : Int) := by omega
     clear hdr HK
     go_wp2
     go_ret
     exact ⟨by rw [HN.out]; rfl, rfl⟩
    ·have h2' : decide ((hi : Int) < (s[k].toNat : Int)) = false := by simp; omega
     cases h3 : bl.contains s[k]
     ·have HN : Hid (betw lo hi bl (s.data.toList.drop (k + 1)) = betw lo hi bl s.data.toList) := by
       unfold Hid
       rw [← HK.out, hdr.out, show inB lo hi bl s[k] = true from by simp only [inB, h3]; simp; omega]; rfl
      clear hdr HK
      go_wp2_with (go_at_call 89; refine (ix_any but bl hbut s[k] _ rfl _).mono ?_; rintro e w' ⟨i, rfl, hi9, hw'⟩; rw [h3] at hi9; have hw'' := hw'.symm; subst hw'')
      go_round
      case rel => exact ⟨k + 1, by omega, by go_num, HN⟩
      case measure => simp [intOf]; omega
     ·have HN : Hid (betw lo hi bl s.data.toList = false) := by
       unfold Hid
       rw [← HK.out, hdr.out, show inB lo hi bl s[k] = false from by simp only [inB, h3]; simp]; rfl
      clear hdr HK
      go_wp2_with (go_at_call 89; refine (ix_any but bl hbut s[k] _ rfl _).mono ?_; rintro e w' ⟨i, rfl, hi9, hw'⟩; rw [h3] at hi9; have hw'' := hw'.symm; subst hw'')
      go_ret
      exact ⟨by rw [HN.out]; rfl, rfl⟩
  ·obtain rfl : k = s.size := by omega
   have HN : Hid (betw lo hi bl s.data.toList = true) := by
    unfold Hid
    rw [← HK.out, List.drop_of_length_le (by rw [← Lib.size_eq]; exact Nat.le_refl _)]; rfl
   clear HK
   go_wp2
   go_ret
   exact ⟨by rw [HN.out]; rfl, rfl⟩
end Go.Proofs.YtlndhdimamnnlaaGreatDoor



namespace Go.Proofs.YtlndhdimamnnlaaGreatDoor
open Go.RowKit
theorem token_any (s : ByteArray) (w : World) (hs : s.size ≤ maxLen) :
  Calls Tryz.prog 34 #[.string s] w fun e w' => e = .returned (.bool (tokenS s.data.toList)) ∧ w' = w := by
 unfold maxLen at hs
 have hle := Lib.size_eq s
 by_cases h1 : 1 ≤ s.size
 ·have h1' : (1 : Int) ≤ (s.size : Int) := by omega
  by_cases h2 : s.size ≤ 30
  ·have h2' : (s.size : Int) ≤ 30 := by omega
   have HN : Hid (tokenS s.data.toList = betw 33 126 specials s.data.toList) := by unfold Hid tokenS; rw [← hle]; simp [h1, h2]
   clear hle
   go_enter Tryz.func34, Tryz.ntmps34
   go_wp2_with (go_at_call 72; refine (between_any s _ specials rfl 33 126 _ _ rfl rfl _ (by omega)).mono ?_; rintro e w' ⟨rfl, hw'⟩; have hw'' := hw'.symm; subst hw'')
   go_ret
   exact ⟨by rw [HN.out]; rfl, rfl⟩
  ·have h2' : decide ((s.size : Int) ≤ 30) = false := by simp; omega
   have HN : Hid (tokenS s.data.toList = false) := by unfold Hid tokenS; rw [← hle]; simp; omega
   clear hle
   go_enter Tryz.func34, Tryz.ntmps34
   go_wp2
   go_ret
   exact ⟨by rw [HN.out]; rfl, rfl⟩
 ·have h1' : decide ((1 : Int) ≤ (s.size : Int)) = false := by simp; omega
  have HN : Hid (tokenS s.data.toList = false) := by unfold Hid tokenS; rw [← hle]; simp; omega
  clear hle
  go_enter Tryz.func34, Tryz.ntmps34
  go_wp2
  go_ret
  exact ⟨by rw [HN.out]; rfl, rfl⟩
theorem hasPrefix_sp (l : List UInt8) : Lib.hasPrefix l [32] = (l.head? == some 32) := by
 cases l with
 | nil => rfl
 | cons a l => simp [Lib.hasPrefix, List.isPrefixOf, Bool.beq_comm]
theorem hasSuffix_sp (l : List UInt8) : Lib.hasSuffix l [32] = (l.getLast? == some 32) := by
 rcases List.eq_nil_or_concat l with rfl | ⟨x, d, rfl⟩
 ·simp [Lib.hasSuffix]
 ·rw [List.concat_eq_append, Lib.hasSuffix, Bool.eq_iff_iff]
  simp only [List.isSuffixOf_iff_suffix, beq_iff_eq, List.getLast?_append, List.getLast?_singleton, Option.some_or]
  constructor
  ·rintro ⟨t, ht⟩
   have := congrArg List.getLast? ht
   simp at this
   rw [this]
  ·intro h
   obtain rfl := Option.some.inj h
   exact ⟨x, rfl⟩
theorem value_any (s : ByteArray) (w : World) (hs : s.size ≤ maxLen) :
    Calls Tryz.prog 85 #[.string s] w fun e w' => e = .returned (.bool (valueS s.data.toList)) ∧ w' = w := by
  unfold maxLen at hs
  have hle := Lib.size_eq s
  by_cases h1 : s.size ≤ 900
  · have h1' : (s.size : Int) ≤ 900 := by omega
    have HN : Hid (valueS s.data.toList = (betw 32 126 [] s.data.toList && !Lib.hasPrefix s.data.toList [32] && !Lib.hasSuffix s.data.toList [32])) := by unfold Hid valueS; rw [← hle, hasPrefix_sp, hasSuffix_sp]; simp [h1]
    clear hle
    have C1 := Tryz.strings_HasPrefix s ⟨#[32]⟩ w
    have C2 := Tryz.strings_HasSuffix s ⟨#[32]⟩ w (by omega)
    rw [show (ByteArray.mk #[32]).data.toList = [32] from rfl] at C1 C2
    obtain ⟨B1, hB1⟩ : ∃ b, betw 32 126 [] s.data.toList = b := ⟨_, rfl⟩
    obtain ⟨B2, hB2⟩ : ∃ b, Lib.hasPrefix s.data.toList [32] = b := ⟨_, rfl⟩
    obtain ⟨B3, hB3⟩ : ∃ b, Lib.hasSuffix s.data.toList [32] = b := ⟨_, rfl⟩
    have C0 := between_any s ⟨#[]⟩ [] rfl 32 126 _ _ rfl rfl w (by omega)
    rw [hB1] at C0 HN
    rw [hB2] at C1 HN
    rw [hB3] at C2 HN
    clear hB1 hB2 hB3
    have K0 : Hid (Calls Tryz.prog 72 #[.string s, .int .u8 32, .int .u8 126, .string ⟨#[]⟩] w fun e w' => e = .returned (.bool B1) ∧ w' = w) := C0
    have K1 : Hid (Calls Tryz.prog 102 #[.string s, .string ⟨#[32]⟩] w fun e w' => e = .returned (.bool B2) ∧ w' = w) := C1
    have K2 : Hid (Calls Tryz.prog 51 #[.string s, .string ⟨#[32]⟩] w fun e w' => e = .returned (.bool B3) ∧ w' = w) := C2
    clear C0 C1 C2
    cases B1 <;> cases B2 <;> cases B3 <;>
    (go_enter Tryz.func85, Tryz.ntmps85
     go_wp2_with (first | (go_at_call 72; refine K0.out.mono ?_; rintro e w' ⟨rfl, hw'⟩; have hw'' := hw'.symm; subst hw'') | (go_at_call 102; refine K1.out.mono ?_; rintro e w' ⟨rfl, hw'⟩; have hw'' := hw'.symm; subst hw'') | (go_at_call 51; refine K2.out.mono ?_; rintro e w' ⟨rfl, hw'⟩; have hw'' := hw'.symm; subst hw''))
     go_ret
     exact ⟨by rw [HN.out]; rfl, rfl⟩)
  · have h1' : decide ((s.size : Int) ≤ 900) = false := by simp; omega
    have HN : Hid (valueS s.data.toList = false) := by unfold Hid valueS; rw [← hle]; simp; omega
    clear hle
    go_enter Tryz.func85, Tryz.ntmps85
    go_wp2
    go_ret
    exact ⟨by rw [HN.out]; rfl, rfl⟩
end Go.Proofs.YtlndhdimamnnlaaGreatDoor


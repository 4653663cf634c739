/- What the walks of this seat share: bytes and numbers that lie behind an address, rows that the call owns, small equations. No function of the program. -/
import Derived.Test.YtdlnlepecdcmjaaDoorRows
import Derived.WalkKit
import Derived.WalkSpells
import Derived.WalkSmall
import Derived.Deep.QuietTactic
import Derived.BigQuiet
import Derived.Deep.LoopGhost
import Derived.Deep.Draws
import Derived.Laws.IdiomStrings
import Derived.ProofKit
import Derived.OpenShut
import Derived.Deep.RegionLaw
import Derived.Below
import Derived.Laws.Rows
namespace Go.Proofs.YtdlnlepecdcmjaaDoor
open Go.RowKit

/-- n numbers lie behind the address p (where n is 0 nothing is said of p). -/
def Row (k : IntKind) (w : World) (p : Option Addr) (n : Nat) (xs : List Int) : Prop :=
  xs.length = n ∧ (n ≠ 0 → ∃ b o, p = some ⟨b, o, none⟩ ∧ ∀ i, i < n → w.cell? ⟨b, o + i, none⟩ = some (.int k (xs.getD i 0)))

theorem ret_bool {a b : Bool} (h : a = b) : Ending.returned (.bool a) = .returned (.bool b) := by rw [h]

theorem ret_u8 {a b : Int} (h : a = b) : Ending.returned (.int .u8 a) = .returned (.int .u8 b) := by rw [h]

theorem ret_i64 {a b : Int} (h : a = b) : Ending.returned (.int .i64 a) = .returned (.int .i64 b) := by rw [h]

theorem int_eq {k : IntKind} {a b : Int} (h : a = b) : Value.int k a = Value.int k b := by rw [h]
theorem str_push (X : List UInt8) (c : UInt8) : Value.string ((⟨X.toArray⟩ : ByteArray) ++ ⟨#[c]⟩) = Value.string ⟨(X ++ [c]).toArray⟩ := by
  congr 1
theorem str_two (X : List UInt8) (c d : UInt8) : Value.string ((⟨X.toArray⟩ : ByteArray) ++ ⟨#[c, d]⟩) = Value.string ⟨(X ++ [c, d]).toArray⟩ := by
  congr 1

/-- The bytes l lie behind the address p. -/
def BRow (w : World) (p : Option Addr) (l : List UInt8) : Prop :=
  l ≠ [] → ∃ b o, p = some ⟨b, o, none⟩ ∧ ∀ i, i < l.length → w.cell? ⟨b, o + i, none⟩ = some (.int .u8 ((l.getD i 0).toNat : Int))

theorem getD_none (x : List UInt8) (j : Nat) (h : ¬ j < x.length) : x.getD j 0 = 0 := by
  rw [List.getD_eq_getElem?_getD, List.getElem?_eq_none (by omega)]; rfl

def bv (l : List UInt8) : List Value := l.map fun c => Value.int .u8 (c.toNat : Int)
theorem bv_length (l : List UInt8) : (bv l).length = l.length := by simp [bv]
theorem bv_append (l m : List UInt8) : bv (l ++ m) = bv l ++ bv m := by simp [bv]

theorem info_u8 : (Tryd.prog.info? 5).map (fun i => (i.zero, i.size, i.bytes)) = some (some (.int .u8 0), 1, 1) := by kernel_rfl

theorem cell_one (w : World) (v : Value) (t : TypeId) {u : Value} (h : v = u) : ∀ j x, [u][j]? = some x → (w.alloc (.cells #[v] t)).cell? ((⟨w.heap.size, 0, none⟩ : Addr).add j) = some x := by
  subst h
  intro j x hj
  match j, hj with
  | 0, hj => simp at hj; subst hj; simp [Addr.add]
theorem cell_two (w : World) (v v' : Value) (t : TypeId) : ∀ j x, [v, v'][j]? = some x → (w.alloc (.cells #[v, v'] t)).cell? ((⟨w.heap.size, 0, none⟩ : Addr).add j) = some x := by
  intro j x hj
  match j, hj with
  | 0, hj => simp at hj; subst hj; simp [Addr.add]
  | 1, hj => simp at hj; subst hj; simp [Addr.add]
theorem push_below {B e n : Nat} {w0 wr w1 : World} {o : Obj} {v : Value} {xs : List Value} (hown : wr.ownsRow B e 1 v n xs) (hbel : Below B w0 wr) (hB : B ≤ wr.heap.size) (hg : (wr.alloc o).grownBy w1 v.ownBlock) : Below B w0 w1 :=
  (hbel.alloc hB o).grown hg (by simp; omega) fun k hk => (hown.lt k hk).1

theorem cell_three (w : World) (v v' v'' : Value) (t : TypeId) : ∀ j x, [v, v', v''][j]? = some x → (w.alloc (.cells #[v, v', v''] t)).cell? ((⟨w.heap.size, 0, none⟩ : Addr).add j) = some x := by
  intro j x hj
  match j, hj with
  | 0, hj => simp at hj; subst hj; simp [Addr.add]
  | 1, hj => simp at hj; subst hj; simp [Addr.add]
  | 2, hj => simp at hj; subst hj; simp [Addr.add]

theorem convert_nil (w : World) : (convert 22 9 (.slice none 0 0)).run Tryd.prog w = .ok (.string ⟨#[]⟩) w := by
  rw [run_convert_bytes_string w 22 9 5 none 0 0 Tryd.underlying22 Tryd.underlying5 Tryd.underlying9]
  rfl

def iv (l : List Nat) : List Value := l.map fun (n : Nat) => Value.int .i64 (n : Int)
theorem info_int : (Tryd.prog.info? 3).map (fun i => (i.zero, i.size, i.bytes)) = some (some (.int .i64 0), 1, 8) := by kernel_rfl
theorem one_int {k : IntKind} (n : Int) : ∀ u ∈ [Value.int k n], u.oneCell' = true := by
  intro u hu; simp at hu; subst hu; rfl

/-- What is owned lies there. -/
theorem owned_row {w : World} {B : Nat} {v : Value} {l : List UInt8} (h : w.ownsRow B 5 1 v l.length (bv l)) :
    ∃ p c, v = .slice p l.length c ∧ l.length ≤ c ∧ c ≤ maxLen ∧ (p = none → l.length = 0 ∧ c = 0) ∧ BRow w p l := by
  rcases h.2 with ⟨rfl, h0⟩ | ⟨g, cap, cur, rfl, hg, hh, hnc, hcp, hcs, htake⟩
  · refine ⟨none, 0, by rw [h0], by omega, by decide, fun _ => ⟨h0, rfl⟩, fun hne => absurd (List.length_eq_zero_iff.1 h0) hne⟩
  · refine ⟨some ⟨g, 0, none⟩, cap, rfl, hnc, hcp, fun e => (by cases e), fun _ => ⟨g, 0, rfl, fun i hi => ?_⟩⟩
    rw [Nat.zero_add, h.cellAt i (by omega)]
    simp [bv, hi, List.getD_eq_getElem?_getD]

theorem BRow.below {w w' : World} {p : Option Addr} {l : List UInt8} (h : BRow w p l) (hb : Below w.heap.size w w') : BRow w' p l := by
  intro hne
  obtain ⟨b, o, rfl, hc⟩ := h hne
  refine ⟨b, o, rfl, fun i hi => ?_⟩
  have := hc i hi
  rw [hb.cell (p := ⟨b, o + i, none⟩) (World.block_lt_of_cell? w _ this)]
  exact this

/-- A slice of integers that came in: nil, or a row of 'cap' numbers, of which the first 'len' are its elements. -/
def IsRow (k : IntKind) (w : World) (a : Option Addr) (len cap : Nat) (zs : List Int) : Prop :=
  (a = none ∧ len = 0 ∧ cap = 0 ∧ zs = []) ∨
  ∃ x, a = some x ∧ len ≤ cap ∧ cap ≤ maxLen ∧ zs.length = cap ∧ (∀ i, i < zs.length → w.cell? (x.add i) = some (.int k (zs.getD i 0))) ∧ ∀ n ∈ zs, (Lit.int k n).wf = true

theorem isRow_bytes {w : World} {a : Option Addr} {len cap : Nat} {zs : List Int} (h : IsRow .u8 w a len cap zs) :
    ∃ L : List UInt8, L.length = len ∧ len ≤ cap ∧ cap ≤ maxLen ∧ (a = none → len = 0 ∧ cap = 0) ∧ BRow w a L := by
  rcases h with ⟨rfl, rfl, rfl, rfl⟩ | ⟨x, rfl, hl, hm, hz, hcell, hwz⟩
  · exact ⟨[], rfl, Nat.le_refl _, by decide, fun _ => ⟨rfl, rfl⟩, fun h => absurd rfl h⟩
  · refine ⟨(zs.take len).map fun z => UInt8.ofNat z.toNat, by simp; omega, hl, hm, fun e => (by cases e), fun hne => ?_⟩
    have hpos : 0 < len := by
      rcases Nat.eq_zero_or_pos len with e | e
      · subst e; exact absurd (by simp) hne
      · exact e
    obtain ⟨b, o, spot⟩ := x
    have h0 := hcell 0 (by omega)
    have hspot : spot = none := by simpa [Addr.add] using World.cell?_spot h0
    subst hspot
    refine ⟨b, o, rfl, fun i hi => ?_⟩
    have hi' : i < zs.length := by simp at hi; omega
    have hil : i < len := by simp at hi; omega
    have hc := hcell i hi'
    rw [Addr.add_lit] at hc
    rw [hc]
    have hb := bounds_u8 (hwz _ (List.getElem_mem hi'))
    have e1 : zs.getD i 0 = zs[i] := by simp [List.getD_eq_getElem?_getD, List.getElem?_eq_getElem hi']
    have e2 : ((zs.take len).map fun z => UInt8.ofNat z.toNat).getD i 0 = UInt8.ofNat zs[i].toNat := by
      simp [List.getD_eq_getElem?_getD, hil, List.getElem?_eq_getElem hi']
    rw [e1, e2]
    congr 2
    simp
    omega

theorem BRow.take {w : World} {p : Option Addr} {l : List UInt8} (h : BRow w p l) (m : Nat) : BRow w p (l.take m) := by
  intro hne
  obtain ⟨b, o, rfl, hc⟩ := h (fun e => hne (by rw [e]; simp))
  refine ⟨b, o, rfl, fun i hi => ?_⟩
  rw [List.length_take] at hi
  rw [hc i (by omega)]
  simp [List.getD_eq_getElem?_getD, show i < m by omega]
theorem BRow.drop {w : World} {b o : Nat} {l : List UInt8} (hc : ∀ i, i < l.length → w.cell? ⟨b, o + i, none⟩ = some (.int .u8 ((l.getD i 0).toNat : Int))) (m : Nat) : BRow w (some ⟨b, o + m, none⟩) (l.drop m) := by
  intro hne
  refine ⟨b, o + m, rfl, fun i hi => ?_⟩
  rw [List.length_drop] at hi
  rw [Nat.add_assoc, hc (m + i) (by omega)]
  simp [List.getD_eq_getElem?_getD]

def nums (l : List UInt8) : List Int := l.map fun c => (c.toNat : Int)
theorem brow_row {w : World} {p : Option Addr} {l : List UInt8} (h : BRow w p l) : Row .u8 w p l.length (nums l) := by
  refine ⟨by simp [nums], fun hn => ?_⟩
  obtain ⟨b, o, rfl, hc⟩ := h (fun e => hn (by rw [e]; rfl))
  refine ⟨b, o, rfl, fun i hi => ?_⟩
  rw [hc i hi]
  simp [nums, List.getD_eq_getElem?_getD, List.getElem?_eq_getElem hi]


def ReadPost (w : World) (out : List UInt8 × Nat) (e : Ending) (w' : World) : Prop :=
  Below w.heap.size w w' ∧ ∃ p c, e = .returned (.tuple #[.slice p out.1.length c, .int .i64 (out.2 : Int)]) ∧ out.1.length ≤ c ∧ c ≤ maxLen ∧ BRow w' p out.1

theorem readPost_none {w w' : World} (hb : Below w.heap.size w w') (n : Nat) : ReadPost w ([], n) (.returned (.tuple #[.slice none 0 0, .int .i64 (n : Int)])) w' :=
  ⟨hb, none, 0, rfl, Nat.le_refl _, by decide, fun h => absurd rfl h⟩


/-- 'append' to a row that the call owns, as one step of a region that draws its order. -/
theorem step_append_own {P : Program} {ops : Array Oper} {o : Oper} {a : Act} {w : World} {K : Act → World → Prop} {Q : Exit → Act → World → Prop} {E : Prop}
    (hg : o.guard = none) (s x : Operand) (t : TypeId) (hop : o.op = Op.call { callee := Callee.builtin Builtin.append, args := #[s, x], argTypes := #[t, t] })
    (base : Nat) (e : TypeId) (i : TypeInfo) (z : Value) (size bytes : Nat) (h1 : P.underlying t = some (.slice e)) (h2 : P.info? e = some i) (h3 : i.zero = some z) (h4 : i.size = size) (h5 : i.bytes = bytes) (h6 : z.cells.size = size) (h7 : 0 < size)
    (v : Value) (n : Nat) (xs : List Value) (hs : a.eval s = v) (hown : w.ownsRow base e size v n xs)
    (ad : Addr) (m c : Nat) (news : List Value) (hx : a.eval x = .slice (some ad) m c) (hn : news.length = m * size) (hc : ∀ j u, news[j]? = some u → w.cell? (ad.add j) = some u) (h1c : ∀ u ∈ news, u.oneCell' = true)
    (b1 : n + m ≤ maxLen) (b2 : (n + m) * bytes ≤ 140737488355328) (hbase : base ≤ w.heap.size)
    (hK : ∀ v' w', w'.ownsRow base e size v' (n + m) (xs ++ news) → w.grownBy w' v.ownBlock → K (a.put o.dst v') w') :
    if Region.wanted o (yielded ops a.tmps) = true then Oper.wp P o a w K Q else E := by
  have hw : Region.wanted o (yielded ops a.tmps) = true := by simp [Region.wanted, hg]
  rw [if_pos hw]
  obtain ⟨v', w', hrun, r1, r2, _⟩ := run_append_own (P := P) w base t o.type e i z size bytes h1 h2 h3 h4 h5 h6 h7 v n xs hown ad m c news hn hc h1c b1 b2 hbase
  unfold Oper.wp
  simp [execOp, hop, resolve, invoke, builtin, hs, hx, hrun, Result.andThen]
  exact hK v' w' r1 r2

theorem push_below_drew {B e n : Nat} {w0 wr w1 : World} {o : Obj} {v : Value} {xs : List Value} (hown : wr.ownsRow B e 1 v n xs) (hbel : Below B w0 wr) (hB : B ≤ wr.heap.size) (hg : (wr.alloc o).drew.grownBy w1 v.ownBlock) : Below B w0 w1 :=
  ((hbel.alloc hB o).drew).grown hg (by simp; omega) fun k hk => (hown.lt k hk).1

theorem ownsRow_below {w w' : World} {B e size n : Nat} {v : Value} {xs : List Value} (h : w.ownsRow B e size v n xs) (hb : Below w.heap.size w w') : w'.ownsRow B e size v n xs := by
  refine ⟨h.1, ?_⟩
  rcases h.2 with hn | ⟨g, cap, cur, rfl, hg, hh, rest⟩
  · exact .inl hn
  · refine .inr ⟨g, cap, cur, rfl, hg, ?_, rest⟩
    rw [hb.block g (Array.getElem?_eq_some_iff.1 hh).1]
    exact hh

def strLen : Value → Nat
  | .string s => s.size
  | _ => 0
end Go.Proofs.YtdlnlepecdcmjaaDoor

/- A reader of a page in memory: where it is; what moves it. No function of the program. -/
namespace Go.Proofs.YtdlnlepecdcmjaaDoor
open Go.RowKit

/-- The reader lies there: its page, and where it is. -/
def RdAt (w : World) (g : Nat) (p : ByteArray) (k : Int) : Prop := w.heap[g]? = some (.cells #[.string p, .int .i64 k] 38)
theorem RdAt.page {w : World} {g : Nat} {p : ByteArray} {k : Int} (h : RdAt w g p k) : w.cell? ⟨g, 0, none⟩ = some (.string p) := (cell_of_row w g 0 #[.string p, .int .i64 k] 38 (0, 0) h).trans rfl
theorem RdAt.at_ {w : World} {g : Nat} {p : ByteArray} {k : Int} (h : RdAt w g p k) : w.cell? ⟨g, 1, none⟩ = some (.int .i64 k) := (cell_of_row w g 1 #[.string p, .int .i64 k] 38 (0, 0) h).trans rfl
theorem RdAt.lt {w : World} {g : Nat} {p : ByteArray} {k : Int} (h : RdAt w g p k) : g < w.heap.size := (Array.getElem?_eq_some_iff.1 h).1
theorem RdAt.frozen {w : World} {g : Nat} {p : ByteArray} {k : Int} (h : RdAt w g p k) (o : Nat) : w.frozen? ⟨g, o, none⟩ = false := by simp [World.frozen?, show w.heap[g]? = _ from h]
theorem RdAt.set {w : World} {g : Nat} {p : ByteArray} {k : Int} (h : RdAt w g p k) (m : Int) : RdAt (w.setCell ⟨g, 1, none⟩ (.int .i64 m)) g p m := by
  unfold RdAt
  rw [heap_setCell_same w g 1 #[.string p, .int .i64 k] 38 (.int .i64 m) h]
  rfl
theorem RdAt.below {w w' : World} {g : Nat} {p : ByteArray} {k : Int} (h : RdAt w g p k) (hb : Below w.heap.size w w') : RdAt w' g p k := by
  unfold RdAt
  rw [hb.block g h.lt]
  exact h
theorem RdAt.drew {w : World} {g : Nat} {p : ByteArray} {k : Int} (h : RdAt w g p k) : RdAt w.drew g p k := h
theorem rd_new (w : World) (p : ByteArray) (k : Int) : RdAt (w.alloc (.cells #[.string p, .int .i64 k] 38)) w.heap.size p k := by
  show (w.heap.push _)[w.heap.size]? = _
  rw [Array.getElem?_push, if_pos rfl]
theorem BRow.moved {w : World} {q : Option Addr} {l : List UInt8} (h : BRow w q l) {g : Nat} {p : ByteArray} {k : Int} (hc : RdAt w g p k) (v : Value) : BRow (w.setCell ⟨g, 1, none⟩ v) q l := by
  intro hne
  obtain ⟨b, o, e, hl⟩ := h hne
  refine ⟨b, o, e, fun i hi => ?_⟩
  have h1 := hl i hi
  rw [World.cell?_setCell_other _ _ _ _ (fun e => by rw [← e, hc.at_] at h1; cases h1)]
  exact h1
theorem set1_size (w : World) (g : Nat) (v : Value) : (w.setCell ⟨g, 1, none⟩ v).heap.size = w.heap.size := by simp [World.setCell]
/-- All as it was, but for where the reader is. -/
def Moves (w : World) (g : Nat) (m : Int) (w' : World) : Prop := Below w.heap.size (w.setCell ⟨g, 1, none⟩ (.int .i64 m)) w'
theorem Moves.rd {w w' : World} {g : Nat} {p : ByteArray} {k m : Int} (h : Moves w g m w') (hc : RdAt w g p k) : RdAt w' g p m :=
  (hc.set m).below (by rw [set1_size]; exact h)
theorem Moves.size {w w' : World} {g : Nat} {m : Int} (h : Moves w g m w') : w.heap.size ≤ w'.heap.size := by
  have h1 : Below w.heap.size (w.setCell ⟨g, 1, none⟩ (.int .i64 m)) w' := h
  have h2 := h1.size
  rw [set1_size] at h2
  exact h2
theorem Moves.block {w w' : World} {g : Nat} {m : Int} (h : Moves w g m w') (b : Nat) (hb : b < w.heap.size) (hg : b ≠ g) : w'.heap[b]? = w.heap[b]? := by
  have h1 : Below w.heap.size (w.setCell ⟨g, 1, none⟩ (.int .i64 m)) w' := h
  rw [h1.block b hb, Below.heap_setCell _ _ _ _ hg]
theorem Moves.trans {w w1 w2 : World} {g : Nat} {p : ByteArray} {n m k : Int} (h1 : Moves w g m w1) (h2 : Moves w1 g k w2) (hc : RdAt w g p n) : Moves w g k w2 := by
  have c1 := h1.rd hc
  have c2 := h2.rd c1
  have b1 : Below w.heap.size (w.setCell ⟨g, 1, none⟩ (.int .i64 m)) w1 := h1
  have b2 : Below w1.heap.size (w1.setCell ⟨g, 1, none⟩ (.int .i64 k)) w2 := h2
  refine ⟨b2.os.trans b1.os, b2.tape.trans b1.tape, b2.output.trans b1.output, ?_, fun i hi => ?_⟩
  · rw [set1_size]
    exact Nat.le_trans h1.size h2.size
  · by_cases e : i = g
    · subst e
      rw [show w2.heap[i]? = _ from c2, show (w.setCell ⟨i, 1, none⟩ (.int .i64 k)).heap[i]? = _ from hc.set k]
    · rw [b2.block i (Nat.lt_of_lt_of_le hi h1.size), Below.heap_setCell _ _ _ _ e, b1.block i hi, Below.heap_setCell _ _ _ _ e, Below.heap_setCell _ _ _ _ e]
theorem Moves.then {w w1 w2 : World} {g : Nat} {m : Int} (h1 : Moves w g m w1) (h2 : Below w1.heap.size w1 w2) : Moves w g m w2 := by
  have b1 : Below w.heap.size (w.setCell ⟨g, 1, none⟩ (.int .i64 m)) w1 := h1
  exact b1.trans (h2.mono h1.size)
theorem Moves.base {w0 w w' : World} {g : Nat} {m : Int} (h : Moves w g m w') (hb : Below w0.heap.size w0 w) (hg : w0.heap.size ≤ g) : Below w0.heap.size w0 w' :=
  (hb.setCell (p := ⟨g, 1, none⟩) hg (.int .i64 m)).trans (h.mono hb.size)
theorem Moves.owns {w w' : World} {g : Nat} {m : Int} (h : Moves w g m w') {B e s k : Nat} {v : Value} {xs : List Value} (ho : w.ownsRow B e s v k xs) (hB : g < B) : w'.ownsRow B e s v k xs := by
  have h1 := ownsRow_setCell_below ho (a := ⟨g, 1, none⟩) hB (.int .i64 m)
  exact ownsRow_below h1 (by rw [set1_size]; exact h)
theorem Moves.bytes {w w' : World} {g : Nat} {p : ByteArray} {k m : Int} (h : Moves w g m w') (hc : RdAt w g p k) {q : Option Addr} {l : List UInt8} (hr : BRow w q l) : BRow w' q l :=
  (hr.moved hc (.int .i64 m)).below (by rw [set1_size]; exact h)
/-- It is where it was. -/
theorem Moves.still {w : World} {g : Nat} {p : ByteArray} {k : Int} (hc : RdAt w g p k) : Moves w g k w := by
  unfold Moves
  refine ⟨rfl, rfl, rfl, by simp [World.setCell], fun i hi => ?_⟩
  by_cases e : i = g
  · subst e
    rw [show w.heap[i]? = _ from hc, show (w.setCell ⟨i, 1, none⟩ (.int .i64 k)).heap[i]? = _ from hc.set k]
  · rw [Below.heap_setCell _ _ _ _ e]
theorem Moves.of_set {w : World} {g : Nat} {m : Int} : Moves w g m (w.setCell ⟨g, 1, none⟩ (.int .i64 m)) := by
  unfold Moves
  have := Below.refl w.heap.size (w.setCell ⟨g, 1, none⟩ (.int .i64 m))
  exact this
theorem Moves.of_below {w w' : World} {g : Nat} {p : ByteArray} {k : Int} (hc : RdAt w g p k) (hb : Below w.heap.size w w') : Moves w g k w' := (Moves.still hc).then hb
end Go.Proofs.YtdlnlepecdcmjaaDoor

/- What the walks of this seat share: bytes and numbers that lie behind an address, rows that the call owns, small equations. No function of the program. -/
import Derived.Test.YtehiaenicfmpbaaDoorRows
import Derived.WalkKit
import Derived.WalkSpells
import Derived.WalkSmall
import Derived.Deep.QuietTactic
import Derived.BigQuiet
import Derived.Deep.LoopGhost
import Derived.Deep.Draws
import Derived.Laws.IdiomStrings
import Derived.ProofKit
import Derived.OpenShut
import Derived.Deep.RegionLaw
import Derived.Test.YtehiaenicfmpbaaDoorXpartsaysupto1
import Derived.Laws.OwnMore
namespace Go.Proofs.YtehiaenicfmpbaaDoor
open Go.RowKit

/-- n numbers lie behind the address p (where n is 0 nothing is said of p). -/
def Row (k : IntKind) (w : World) (p : Option Addr) (n : Nat) (xs : List Int) : Prop :=
  xs.length = n ∧ (n ≠ 0 → ∃ b o, p = some ⟨b, o, none⟩ ∧ ∀ i, i < n → w.cell? ⟨b, o + i, none⟩ = some (.int k (xs.getD i 0)))

theorem ret_bool {a b : Bool} (h : a = b) : Ending.returned (.bool a) = .returned (.bool b) := by rw [h]

theorem ret_u8 {a b : Int} (h : a = b) : Ending.returned (.int .u8 a) = .returned (.int .u8 b) := by rw [h]

theorem ret_i64 {a b : Int} (h : a = b) : Ending.returned (.int .i64 a) = .returned (.int .i64 b) := by rw [h]

theorem int_eq {k : IntKind} {a b : Int} (h : a = b) : Value.int k a = Value.int k b := by rw [h]
theorem str_push (X : List UInt8) (c : UInt8) : Value.string ((⟨X.toArray⟩ : ByteArray) ++ ⟨#[c]⟩) = Value.string ⟨(X ++ [c]).toArray⟩ := by
  congr 1
theorem str_two (X : List UInt8) (c d : UInt8) : Value.string ((⟨X.toArray⟩ : ByteArray) ++ ⟨#[c, d]⟩) = Value.string ⟨(X ++ [c, d]).toArray⟩ := by
  congr 1

/-- The bytes l lie behind the address p. -/
def BRow (w : World) (p : Option Addr) (l : List UInt8) : Prop :=
  l ≠ [] → ∃ b o, p = some ⟨b, o, none⟩ ∧ ∀ i, i < l.length → w.cell? ⟨b, o + i, none⟩ = some (.int .u8 ((l.getD i 0).toNat : Int))

theorem getD_none (x : List UInt8) (j : Nat) (h : ¬ j < x.length) : x.getD j 0 = 0 := by
  rw [List.getD_eq_getElem?_getD, List.getElem?_eq_none (by omega)]; rfl

def bv (l : List UInt8) : List Value := l.map fun c => Value.int .u8 (c.toNat : Int)
theorem bv_length (l : List UInt8) : (bv l).length = l.length := by simp [bv]
theorem bv_append (l m : List UInt8) : bv (l ++ m) = bv l ++ bv m := by simp [bv]

theorem info_u8 : (Tryd.prog.info? 5).map (fun i => (i.zero, i.size, i.bytes)) = some (some (.int .u8 0), 1, 1) := by kernel_rfl

theorem cell_one (w : World) (v : Value) (t : TypeId) {u : Value} (h : v = u) : ∀ j x, [u][j]? = some x → (w.alloc (.cells #[v] t)).cell? ((⟨w.heap.size, 0, none⟩ : Addr).add j) = some x := by
  subst h
  intro j x hj
  match j, hj with
  | 0, hj => simp at hj; subst hj; simp [Addr.add]
theorem cell_two (w : World) (v v' : Value) (t : TypeId) : ∀ j x, [v, v'][j]? = some x → (w.alloc (.cells #[v, v'] t)).cell? ((⟨w.heap.size, 0, none⟩ : Addr).add j) = some x := by
  intro j x hj
  match j, hj with
  | 0, hj => simp at hj; subst hj; simp [Addr.add]
  | 1, hj => simp at hj; subst hj; simp [Addr.add]
theorem push_below {B e n : Nat} {w0 wr w1 : World} {o : Obj} {v : Value} {xs : List Value} (hown : wr.ownsRow B e 1 v n xs) (hbel : Below B w0 wr) (hB : B ≤ wr.heap.size) (hg : (wr.alloc o).grownBy w1 v.ownBlock) : Below B w0 w1 :=
  (hbel.alloc hB o).grown hg (by simp; omega) fun k hk => (hown.lt k hk).1

theorem cell_three (w : World) (v v' v'' : Value) (t : TypeId) : ∀ j x, [v, v', v''][j]? = some x → (w.alloc (.cells #[v, v', v''] t)).cell? ((⟨w.heap.size, 0, none⟩ : Addr).add j) = some x := by
  intro j x hj
  match j, hj with
  | 0, hj => simp at hj; subst hj; simp [Addr.add]
  | 1, hj => simp at hj; subst hj; simp [Addr.add]
  | 2, hj => simp at hj; subst hj; simp [Addr.add]

theorem convert_nil (w : World) : (convert 22 9 (.slice none 0 0)).run Tryd.prog w = .ok (.string ⟨#[]⟩) w := by
  rw [run_convert_bytes_string w 22 9 5 none 0 0 Tryd.underlying22 Tryd.underlying5 Tryd.underlying9]
  rfl

def iv (l : List Nat) : List Value := l.map fun (n : Nat) => Value.int .i64 (n : Int)
theorem info_int : (Tryd.prog.info? 3).map (fun i => (i.zero, i.size, i.bytes)) = some (some (.int .i64 0), 1, 8) := by kernel_rfl
theorem one_int {k : IntKind} (n : Int) : ∀ u ∈ [Value.int k n], u.oneCell' = true := by
  intro u hu; simp at hu; subst hu; rfl

/-- What is owned lies there. -/
theorem owned_row {w : World} {B : Nat} {v : Value} {l : List UInt8} (h : w.ownsRow B 5 1 v l.length (bv l)) :
    ∃ p c, v = .slice p l.length c ∧ l.length ≤ c ∧ c ≤ maxLen ∧ (p = none → l.length = 0 ∧ c = 0) ∧ BRow w p l := by
  rcases h.2 with ⟨rfl, h0⟩ | ⟨g, cap, cur, rfl, hg, hh, hnc, hcp, hcs, htake⟩
  · refine ⟨none, 0, by rw [h0], by omega, by decide, fun _ => ⟨h0, rfl⟩, fun hne => absurd (List.length_eq_zero_iff.1 h0) hne⟩
  · refine ⟨some ⟨g, 0, none⟩, cap, rfl, hnc, hcp, fun e => (by cases e), fun _ => ⟨g, 0, rfl, fun i hi => ?_⟩⟩
    rw [Nat.zero_add, h.cellAt i (by omega)]
    simp [bv, hi, List.getD_eq_getElem?_getD]

theorem BRow.below {w w' : World} {p : Option Addr} {l : List UInt8} (h : BRow w p l) (hb : Below w.heap.size w w') : BRow w' p l := by
  intro hne
  obtain ⟨b, o, rfl, hc⟩ := h hne
  refine ⟨b, o, rfl, fun i hi => ?_⟩
  have := hc i hi
  rw [hb.cell (p := ⟨b, o + i, none⟩) (World.block_lt_of_cell? w _ this)]
  exact this

/-- A slice of integers that came in: nil, or a row of 'cap' numbers, of which the first 'len' are its elements. -/
def IsRow (k : IntKind) (w : World) (a : Option Addr) (len cap : Nat) (zs : List Int) : Prop :=
  (a = none ∧ len = 0 ∧ cap = 0 ∧ zs = []) ∨
  ∃ x, a = some x ∧ len ≤ cap ∧ cap ≤ maxLen ∧ zs.length = cap ∧ (∀ i, i < zs.length → w.cell? (x.add i) = some (.int k (zs.getD i 0))) ∧ ∀ n ∈ zs, (Lit.int k n).wf = true

theorem isRow_bytes {w : World} {a : Option Addr} {len cap : Nat} {zs : List Int} (h : IsRow .u8 w a len cap zs) :
    ∃ L : List UInt8, L.length = len ∧ len ≤ cap ∧ cap ≤ maxLen ∧ (a = none → len = 0 ∧ cap = 0) ∧ BRow w a L := by
  rcases h with ⟨rfl, rfl, rfl, rfl⟩ | ⟨x, rfl, hl, hm, hz, hcell, hwz⟩
  · exact ⟨[], rfl, Nat.le_refl _, by decide, fun _ => ⟨rfl, rfl⟩, fun h => absurd rfl h⟩
  · refine ⟨(zs.take len).map fun z => UInt8.ofNat z.toNat, by simp; omega, hl, hm, fun e => (by cases e), fun hne => ?_⟩
    have hpos : 0 < len := by
      rcases Nat.eq_zero_or_pos len with e | e
      · subst e; exact absurd (by simp) hne
      · exact e
    obtain ⟨b, o, spot⟩ := x
    have h0 := hcell 0 (by omega)
    have hspot : spot = none := by simpa [Addr.add] using World.cell?_spot h0
    subst hspot
    refine ⟨b, o, rfl, fun i hi => ?_⟩
    have hi' : i < zs.length := by simp at hi; omega
    have hil : i < len := by simp at hi; omega
    have hc := hcell i hi'
    rw [Addr.add_lit] at hc
    rw [hc]
    have hb := bounds_u8 (hwz _ (List.getElem_mem hi'))
    have e1 : zs.getD i 0 = zs[i] := by simp [List.getD_eq_getElem?_getD, List.getElem?_eq_getElem hi']
    have e2 : ((zs.take len).map fun z => UInt8.ofNat z.toNat).getD i 0 = UInt8.ofNat zs[i].toNat := by
      simp [List.getD_eq_getElem?_getD, hil, List.getElem?_eq_getElem hi']
    rw [e1, e2]
    congr 2
    simp
    omega

theorem BRow.take {w : World} {p : Option Addr} {l : List UInt8} (h : BRow w p l) (m : Nat) : BRow w p (l.take m) := by
  intro hne
  obtain ⟨b, o, rfl, hc⟩ := h (fun e => hne (by rw [e]; simp))
  refine ⟨b, o, rfl, fun i hi => ?_⟩
  rw [List.length_take] at hi
  rw [hc i (by omega)]
  simp [List.getD_eq_getElem?_getD, show i < m by omega]
theorem BRow.drop {w : World} {b o : Nat} {l : List UInt8} (hc : ∀ i, i < l.length → w.cell? ⟨b, o + i, none⟩ = some (.int .u8 ((l.getD i 0).toNat : Int))) (m : Nat) : BRow w (some ⟨b, o + m, none⟩) (l.drop m) := by
  intro hne
  refine ⟨b, o + m, rfl, fun i hi => ?_⟩
  rw [List.length_drop] at hi
  rw [Nat.add_assoc, hc (m + i) (by omega)]
  simp [List.getD_eq_getElem?_getD]

def nums (l : List UInt8) : List Int := l.map fun c => (c.toNat : Int)
theorem brow_row {w : World} {p : Option Addr} {l : List UInt8} (h : BRow w p l) : Row .u8 w p l.length (nums l) := by
  refine ⟨by simp [nums], fun hn => ?_⟩
  obtain ⟨b, o, rfl, hc⟩ := h (fun e => hn (by rw [e]; rfl))
  refine ⟨b, o, rfl, fun i hi => ?_⟩
  rw [hc i hi]
  simp [nums, List.getD_eq_getElem?_getD, List.getElem?_eq_getElem hi]


def ReadPost (w : World) (out : List UInt8 × Nat) (e : Ending) (w' : World) : Prop :=
  Below w.heap.size w w' ∧ ∃ p c, e = .returned (.tuple #[.slice p out.1.length c, .int .i64 (out.2 : Int)]) ∧ out.1.length ≤ c ∧ c ≤ maxLen ∧ BRow w' p out.1

theorem readPost_none {w w' : World} (hb : Below w.heap.size w w') (n : Nat) : ReadPost w ([], n) (.returned (.tuple #[.slice none 0 0, .int .i64 (n : Int)])) w' :=
  ⟨hb, none, 0, rfl, Nat.le_refl _, by decide, fun h => absurd rfl h⟩


/-- 'append' to a row that the call owns, as one step of a region that draws its order. -/
theorem step_append_own {P : Program} {ops : Array Oper} {o : Oper} {a : Act} {w : World} {K : Act → World → Prop} {Q : Exit → Act → World → Prop} {E : Prop}
    (hg : o.guard = none) (s x : Operand) (t : TypeId) (hop : o.op = Op.call { callee := Callee.builtin Builtin.append, args := #[s, x], argTypes := #[t, t] })
    (base : Nat) (e : TypeId) (i : TypeInfo) (z : Value) (size bytes : Nat) (h1 : P.underlying t = some (.slice e)) (h2 : P.info? e = some i) (h3 : i.zero = some z) (h4 : i.size = size) (h5 : i.bytes = bytes) (h6 : z.cells.size = size) (h7 : 0 < size)
    (v : Value) (n : Nat) (xs : List Value) (hs : a.eval s = v) (hown : w.ownsRow base e size v n xs)
    (ad : Addr) (m c : Nat) (news : List Value) (hx : a.eval x = .slice (some ad) m c) (hn : news.length = m * size) (hc : ∀ j u, news[j]? = some u → w.cell? (ad.add j) = some u) (h1c : ∀ u ∈ news, u.oneCell' = true)
    (b1 : n + m ≤ maxLen) (b2 : (n + m) * bytes ≤ 140737488355328) (hbase : base ≤ w.heap.size)
    (hK : ∀ v' w', w'.ownsRow base e size v' (n + m) (xs ++ news) → w.grownBy w' v.ownBlock → K (a.put o.dst v') w') :
    if Region.wanted o (yielded ops a.tmps) = true then Oper.wp P o a w K Q else E := by
  have hw : Region.wanted o (yielded ops a.tmps) = true := by simp [Region.wanted, hg]
  rw [if_pos hw]
  obtain ⟨v', w', hrun, r1, r2, _⟩ := run_append_own (P := P) w base t o.type e i z size bytes h1 h2 h3 h4 h5 h6 h7 v n xs hown ad m c news hn hc h1c b1 b2 hbase
  unfold Oper.wp
  simp [execOp, hop, resolve, invoke, builtin, hs, hx, hrun, Result.andThen]
  exact hK v' w' r1 r2

theorem push_below_drew {B e n : Nat} {w0 wr w1 : World} {o : Obj} {v : Value} {xs : List Value} (hown : wr.ownsRow B e 1 v n xs) (hbel : Below B w0 wr) (hB : B ≤ wr.heap.size) (hg : (wr.alloc o).drew.grownBy w1 v.ownBlock) : Below B w0 w1 :=
  ((hbel.alloc hB o).drew).grown hg (by simp; omega) fun k hk => (hown.lt k hk).1

theorem ownsRow_below {w w' : World} {B e size n : Nat} {v : Value} {xs : List Value} (h : w.ownsRow B e size v n xs) (hb : Below w.heap.size w w') : w'.ownsRow B e size v n xs := by
  refine ⟨h.1, ?_⟩
  rcases h.2 with hn | ⟨g, cap, cur, rfl, hg, hh, rest⟩
  · exact .inl hn
  · refine .inr ⟨g, cap, cur, rfl, hg, ?_, rest⟩
    rw [hb.block g (Array.getElem?_eq_some_iff.1 hh).1]
    exact hh

def strLen : Value → Nat
  | .string s => s.size
  | _ => 0
end Go.Proofs.YtehiaenicfmpbaaDoor

/- Parts as they lie in memory. No function of the program. -/
namespace Go.Proofs.YtehiaenicfmpbaaDoor
open Go.RowKit

/-- The seven cells of a part. -/
def PCells (w : World) (b o : Nat) (p : PT) (pb : Option Addr) (cb : Nat) (pk : Option Addr) (ck : Nat) : Prop :=
  w.cell? ⟨b, o, none⟩ = some (.string p.ty) ∧ w.cell? ⟨b, o + 1, none⟩ = some (.string p.cs) ∧ w.cell? ⟨b, o + 2, none⟩ = some (.string p.id) ∧ w.cell? ⟨b, o + 3, none⟩ = some (.string p.loc) ∧
  w.cell? ⟨b, o + 4, none⟩ = some (.int .i64 p.how) ∧ w.cell? ⟨b, o + 5, none⟩ = some (.slice pb p.body.length cb) ∧ w.cell? ⟨b, o + 6, none⟩ = some (.slice pk p.kids.length ck)
/-- Texts, bytes, parts as long as they can be. -/
def PLen (p : PT) : Prop :=
  p.ty.size ≤ maxLen ∧ p.cs.size ≤ maxLen ∧ p.id.size ≤ maxLen ∧ p.loc.size ≤ maxLen ∧ -9223372036854775808 ≤ p.how ∧ p.how ≤ 9223372036854775807 ∧ p.body.length ≤ maxLen ∧ p.kids.length ≤ maxLen
/-- What hangs at a part. -/
def PHeldK (K : Option Addr → List PT → Prop) (w : World) (p : PT) (pb : Option Addr) (cb : Nat) (pk : Option Addr) (ck : Nat) : Prop :=
  PLen p ∧ (p.body.length ≤ cb ∧ cb ≤ maxLen ∧ (pb = none → cb = 0)) ∧ BRow w pb p.body ∧ (p.kids.length ≤ ck ∧ ck ≤ maxLen ∧ (pk = none → ck = 0)) ∧ K pk p.kids
/-- Parts lie behind the address, to the depth f. -/
def KAt (w : World) : Nat → Option Addr → List PT → Prop
  | 0, _, l => l = []
  | f + 1, a, l => l ≠ [] → ∃ b o, a = some ⟨b, o, none⟩ ∧ ∀ i, i < l.length → ∃ pb cb pk ck, PCells w b (o + i * 7) (l.getD i pt0) pb cb pk ck ∧ PHeldK (KAt w f) w (l.getD i pt0) pb cb pk ck
def PHeld (w : World) (f : Nat) (p : PT) (pb : Option Addr) (cb : Nat) (pk : Option Addr) (ck : Nat) : Prop := PHeldK (KAt w f) w p pb cb pk ck
def PAt (w : World) (f : Nat) (b o : Nat) (p : PT) : Prop := ∃ pb cb pk ck, PCells w b o p pb cb pk ck ∧ PHeld w f p pb cb pk ck
/-- A part as a value. -/
def pval (p : PT) (pb : Option Addr) (cb : Nat) (pk : Option Addr) (ck : Nat) : Value :=
  .agg #[.string p.ty, .string p.cs, .string p.id, .string p.loc, .int .i64 p.how, .slice pb p.body.length cb, .slice pk p.kids.length ck]

theorem KAt.each {w : World} {f : Nat} {a : Option Addr} {l : List PT} (h : KAt w (f + 1) a l) (hne : l ≠ []) : ∃ b o, a = some ⟨b, o, none⟩ ∧ ∀ i, i < l.length → PAt w f b (o + i * 7) (l.getD i pt0) := by
  obtain ⟨b, o, e, hc⟩ := h hne
  exact ⟨b, o, e, fun i hi => hc i hi⟩
theorem KAt.mk {w : World} {f b o : Nat} {l : List PT} (h : ∀ i, i < l.length → PAt w f b (o + i * 7) (l.getD i pt0)) : KAt w (f + 1) (some ⟨b, o, none⟩) l := fun _ => ⟨b, o, rfl, fun i hi => h i hi⟩
theorem KAt.nil (w : World) (f : Nat) (a : Option Addr) : KAt w f a [] := by
  cases f with
  | zero => rfl
  | succ f => exact fun h => absurd rfl h

theorem BRow.under {w w' : World} {p : Option Addr} {l : List UInt8} (h : BRow w p l) (hb : Below w.heap.size w w') : BRow w' p l := by
  intro hne
  obtain ⟨b, o, rfl, hc⟩ := h hne
  refine ⟨b, o, rfl, fun i hi => ?_⟩
  have := hc i hi
  rw [hb.cell (p := ⟨b, o + i, none⟩) (World.block_lt_of_cell? w _ this)]
  exact this
theorem PCells.below {w w' : World} {b o : Nat} {p : PT} {pb : Option Addr} {cb : Nat} {pk : Option Addr} {ck : Nat} (h : PCells w b o p pb cb pk ck) (hb : Below w.heap.size w w') : PCells w' b o p pb cb pk ck := by
  obtain ⟨h0, h1, h2, h3, h4, h5, h6⟩ := h
  have hl := World.block_lt_of_cell? w _ h0
  refine ⟨?_, ?_, ?_, ?_, ?_, ?_, ?_⟩
  · rw [hb.cell (p := ⟨b, o, none⟩) hl]; exact h0
  · rw [hb.cell (p := ⟨b, o + 1, none⟩) hl]; exact h1
  · rw [hb.cell (p := ⟨b, o + 2, none⟩) hl]; exact h2
  · rw [hb.cell (p := ⟨b, o + 3, none⟩) hl]; exact h3
  · rw [hb.cell (p := ⟨b, o + 4, none⟩) hl]; exact h4
  · rw [hb.cell (p := ⟨b, o + 5, none⟩) hl]; exact h5
  · rw [hb.cell (p := ⟨b, o + 6, none⟩) hl]; exact h6
theorem PHeldK.mono {K K' : Option Addr → List PT → Prop} {w w' : World} {p : PT} {pb : Option Addr} {cb : Nat} {pk : Option Addr} {ck : Nat} (h : PHeldK K w p pb cb pk ck) (hb : Below w.heap.size w w') (hK : ∀ a l, K a l → K' a l) : PHeldK K' w' p pb cb pk ck :=
  ⟨h.1, h.2.1, h.2.2.1.under hb, h.2.2.2.1, hK _ _ h.2.2.2.2⟩
theorem KAt.below {w w' : World} (hb : Below w.heap.size w w') : ∀ (f : Nat) (a : Option Addr) (l : List PT), KAt w f a l → KAt w' f a l
  | 0, _, _, h => h
  | f + 1, a, l, h => fun hne => by
    obtain ⟨b, o, e, hc⟩ := h hne
    refine ⟨b, o, e, fun i hi => ?_⟩
    obtain ⟨pb, cb, pk, ck, h1, h2⟩ := hc i hi
    exact ⟨pb, cb, pk, ck, h1.below hb, h2.mono hb (KAt.below hb f)⟩
theorem PHeld.below {w w' : World} {f : Nat} {p : PT} {pb : Option Addr} {cb : Nat} {pk : Option Addr} {ck : Nat} (h : PHeld w f p pb cb pk ck) (hb : Below w.heap.size w w') : PHeld w' f p pb cb pk ck := PHeldK.mono h hb (KAt.below hb f)
theorem PAt.below {w w' : World} {f b o : Nat} {p : PT} (h : PAt w f b o p) (hb : Below w.heap.size w w') : PAt w' f b o p := by
  obtain ⟨pb, cb, pk, ck, h1, h2⟩ := h
  exact ⟨pb, cb, pk, ck, h1.below hb, h2.below hb⟩
theorem PAt.lt {w : World} {f b o : Nat} {p : PT} (h : PAt w f b o p) : b < w.heap.size := by
  obtain ⟨pb, cb, pk, ck, h1, h2⟩ := h
  exact World.block_lt_of_cell? w _ h1.1
end Go.Proofs.YtehiaenicfmpbaaDoor

/- Plain facts on parts: how many parts there are in one, itself among them. No program. -/
namespace Go.Proofs.YtehiaenicfmpbaaDoor

/-- How many parts: itself, and all in it. -/
def cnt : PT → Nat
  | ⟨_, _, _, _, _, _, kids⟩ => 1 + (kids.attach.map fun ⟨k, _⟩ => cnt k).sum
theorem cnt_eq (p : PT) : cnt p = 1 + (p.kids.map cnt).sum := by
  obtain ⟨a, b, c, d, e, f, kids⟩ := p
  rw [cnt]
  congr 2
  show List.map (fun x : { x // x ∈ kids } => cnt x.1) kids.attach = List.map cnt kids
  conv => rhs; rw [← List.attach_map_subtype_val kids, List.map_map]
  rfl
theorem cnt_pos (p : PT) : 1 ≤ cnt p := by rw [cnt_eq]; omega
/-- Of all pairs that are left to do. -/
def cnts (l : List (PT × PT)) : Nat := (l.map fun x => cnt x.1).sum
theorem cnts_nil : cnts [] = 0 := rfl
theorem cnts_snoc (l : List (PT × PT)) (x : PT × PT) : cnts (l ++ [x]) = cnts l + cnt x.1 := by simp [cnts]
theorem cnts_length : ∀ l : List (PT × PT), l.length ≤ cnts l
  | [] => Nat.le_refl _
  | x :: l => by
    have := cnts_length l
    have h := cnt_pos x.1
    simp only [cnts, List.map_cons, List.sum_cons, List.length_cons] at this ⊢
    omega
end Go.Proofs.YtehiaenicfmpbaaDoor

/- Pairs of parts that are left to hold against each other, as they lie in memory. No function of the program. -/
namespace Go.Proofs.YtehiaenicfmpbaaDoor
open Go.RowKit

theorem cnts_append (l m : List (PT × PT)) : cnts (l ++ m) = cnts l + cnts m := by simp [cnts]
theorem cnts_zip : ∀ (a b : List PT), a.length = b.length → cnts (a.zip b) = (a.map cnt).sum
  | [], [], _ => rfl
  | [], _ :: _, h => by simp at h
  | _ :: _, [], h => by simp at h
  | x :: a, y :: b, h => by
    have := cnts_zip a b (by simpa using h)
    simp only [cnts, List.zip_cons_cons, List.map_cons, List.sum_cons] at this ⊢
    rw [this]
theorem cnts_take (l : List (PT × PT)) (k : Nat) : cnts (l.take k) ≤ cnts l := by
  have h := cnts_append (l.take k) (l.drop k)
  rw [List.take_append_drop] at h
  omega
theorem zip_same : ∀ (a b : List PT), a.length = b.length → ((∀ x ∈ a.zip b, x.1 = x.2) ↔ a = b)
  | [], [], _ => by simp
  | [], _ :: _, h => by simp at h
  | _ :: _, [], h => by simp at h
  | x :: a, y :: b, h => by
    have := zip_same a b (by simpa using h)
    rw [List.zip_cons_cons, List.forall_mem_cons, this]
    simp
theorem zip_snoc (a b : List PT) (k : Nat) (ha : k < a.length) (hb : k < b.length) : (a.zip b).take (k + 1) = (a.zip b).take k ++ [(a.getD k pt0, b.getD k pt0)] := by
  rw [List.take_add_one]
  congr 1
  have hl : k < (a.zip b).length := by rw [List.length_zip]; omega
  rw [List.getElem?_eq_getElem hl, List.getElem_zip]
  simp [List.getD_eq_getElem?_getD, List.getElem?_eq_getElem ha, List.getElem?_eq_getElem hb]

/-- Pairs of addresses. -/
abbrev PX2 := (Nat × Nat) × (Nat × Nat)
def prv (X : List PX2) : List Value := X.flatMap fun x => [.pointer (some ⟨x.1.1, x.1.2, none⟩), .pointer (some ⟨x.2.1, x.2.2, none⟩)]
theorem prv_length : ∀ X : List PX2, (prv X).length = X.length * 2
  | [] => rfl
  | x :: X => by show ([_, _] ++ prv X).length = _; rw [List.length_append, prv_length X]; simp; omega
theorem prv_snoc (X : List PX2) (x : PX2) : prv (X ++ [x]) = prv X ++ [.pointer (some ⟨x.1.1, x.1.2, none⟩), .pointer (some ⟨x.2.1, x.2.2, none⟩)] := by simp [prv]
/-- These addresses are those of the parts of the plain list. -/
def PrLs (w : World) (X : List PX2) (L : List (PT × PT)) : Prop :=
  X.length = L.length ∧ ∀ (i : Nat) x q, X[i]? = some x → L[i]? = some q → (∃ f, PAt w f x.1.1 x.1.2 q.1) ∧ ∃ f, PAt w f x.2.1 x.2.2 q.2
theorem PrLs.nil (w : World) : PrLs w [] [] := ⟨rfl, fun i x q h => by simp at h⟩
theorem PrLs.snoc {w : World} {X : List PX2} {L : List (PT × PT)} (h : PrLs w X L) {b o b' o' : Nat} {p q : PT} {f f' : Nat} (hp : PAt w f b o p) (hq : PAt w f' b' o' q) : PrLs w (X ++ [((b, o), (b', o'))]) (L ++ [(p, q)]) := by
  refine ⟨by rw [List.length_append, List.length_append, h.1]; rfl, fun i x r hx hr => ?_⟩
  by_cases hi : i < X.length
  · rw [List.getElem?_append_left hi] at hx
    rw [List.getElem?_append_left (by rw [← h.1]; exact hi)] at hr
    exact h.2 i x r hx hr
  · rw [List.getElem?_append_right (by omega)] at hx
    rw [List.getElem?_append_right (by rw [← h.1]; omega), ← h.1] at hr
    cases hd : i - X.length with
    | zero =>
      rw [hd] at hx hr
      obtain rfl := Option.some.inj hx
      obtain rfl := Option.some.inj hr
      exact ⟨⟨f, hp⟩, f', hq⟩
    | succ n => rw [hd] at hx; simp at hx
/-- The last pair of a list, and what is ahead of it. -/
theorem PrLs.last {w wr : World} {B e : Nat} {X : List PX2} {L : List (PT × PT)} {v : Value} (h : PrLs w X L) (hne : L ≠ []) (ho : wr.ownsRow B e 2 v L.length (prv X)) :
    ∃ (L' : List (PT × PT)) (x y : PT) (X' : List PX2) (bx ox bY oY f f' g cap : Nat), L = L' ++ [(x, y)] ∧ v = .slice (some ⟨g, 0, none⟩) (L'.length + 1) cap ∧ PrLs w X' L' ∧ PAt w f bx ox x ∧ PAt w f' bY oY y ∧
      wr.ownsRow B e 2 (.slice (some ⟨g, 0, none⟩) L'.length cap) L'.length (prv X') ∧ wr.cell? ⟨g, L'.length * 2, none⟩ = some (.pointer (some ⟨bx, ox, none⟩)) ∧ wr.cell? ⟨g, L'.length * 2 + 1, none⟩ = some (.pointer (some ⟨bY, oY, none⟩)) ∧ L'.length + 1 ≤ cap := by
  rcases List.eq_nil_or_concat L with hL | ⟨L', ⟨x, y⟩, hL⟩
  · exact absurd hL hne
  · rw [List.concat_eq_append] at hL
    subst hL
    rcases List.eq_nil_or_concat X with hX | ⟨X', ⟨⟨bx, ox⟩, ⟨bY, oY⟩⟩, hX⟩
    · have := h.1; rw [hX] at this; simp at this
    · rw [List.concat_eq_append] at hX
      subst hX
      have hlen : X'.length = L'.length := by have := h.1; simpa using this
      rw [List.length_append] at ho
      have hl1 : L'.length + [(x, y)].length = L'.length + 1 := rfl
      rw [hl1] at ho
      obtain ⟨g, cap, rfl⟩ : ∃ g cap, v = .slice (some ⟨g, 0, none⟩) (L'.length + 1) cap := by
        rcases ho.2 with ⟨_, h0⟩ | ⟨g, cap, cur, hv, _⟩
        · cases h0
        · exact ⟨g, cap, hv⟩
      have hlast := h.2 L'.length ((bx, ox), (bY, oY)) (x, y) (by rw [List.getElem?_append_right (by omega), hlen]; simp) (by rw [List.getElem?_append_right (Nat.le_refl _)]; simp)
      obtain ⟨⟨f, hf⟩, f', hf'⟩ := hlast
      have hX' : PrLs w X' L' := by
        refine ⟨hlen, fun i a q ha hq => ?_⟩
        have hi := (List.getElem?_eq_some_iff.1 ha).1
        exact h.2 i a q (by rw [List.getElem?_append_left hi]; exact ha) (by rw [List.getElem?_append_left (by omega)]; exact hq)
      have hcap : L'.length + 1 ≤ cap := by
        rcases ho.2 with ⟨h0, _⟩ | ⟨g', cap', cur, hv, _, _, hn, _⟩
        · cases h0
        · cases hv; exact hn
      refine ⟨L', x, y, X', bx, ox, bY, oY, f, f', g, cap, rfl, rfl, hX', hf, hf', ?_, ?_, ?_, hcap⟩
      · rw [prv_snoc] at ho
        exact ownsRow_pop (by rw [prv_length, hlen]) ho
      · rw [ho.cellAt _ (by omega), prv_snoc, List.getElem?_append_right (by rw [prv_length, hlen]; exact Nat.le_refl _), prv_length, hlen, Nat.sub_self]; rfl
      · rw [ho.cellAt _ (by omega), prv_snoc, List.getElem?_append_right (by rw [prv_length, hlen]; omega), prv_length, hlen, Nat.add_sub_cancel_left]; rfl
end Go.Proofs.YtehiaenicfmpbaaDoor

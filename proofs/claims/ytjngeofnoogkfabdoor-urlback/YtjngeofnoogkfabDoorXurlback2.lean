/- Plain functions on lists of bytes: addresses: how they are checked, printed, parsed, and where one leads to from another. No program. -/
import Derived.Test.YtjngeofnoogkfabDoorXurlback1
import Derived.Test.YtjngeofnoogkfabDoorRows
import Derived.WalkKit
import Derived.WalkSpells
import Derived.WalkSmall
import Derived.Deep.QuietTactic
import Derived.BigQuiet
import Derived.Deep.LoopGhost
import Derived.Deep.Draws
import Derived.Laws.IdiomStrings
import Derived.ProofKit
import Derived.OpenShut
import Derived.Deep.RegionLaw
namespace Go.Proofs.YtjngeofnoogkfabDoor

/-- An address: its texts, and which of them it has. -/
structure UL where
  sch : List UInt8
  hh : Bool
  hst : List UInt8
  pth : List UInt8
  hq : Bool
  qry : List UInt8
  hf : Bool
  frg : List UInt8

def noUL : UL := ⟨[], false, [], [], false, [], false, []⟩
theorem UL.ext' {a b : UL} (h1 : a.sch = b.sch) (h2 : a.hh = b.hh) (h3 : a.hst = b.hst) (h4 : a.pth = b.pth) (h5 : a.hq = b.hq) (h6 : a.qry = b.qry) (h7 : a.hf = b.hf) (h8 : a.frg = b.frg) : a = b := by
  cases a; cases b; simp at *; exact ⟨h1, h2, h3, h4, h5, h6, h7, h8⟩

def foreignL : List UInt8 := [34, 60, 62, 92, 94, 96, 123, 124, 125]
def hostN : List UInt8 := foreignL ++ [47, 63, 35]
def pathN : List UInt8 := foreignL ++ [63, 35]
def fragN : List UInt8 := foreignL ++ [35]
def isUpB (c : UInt8) : Bool := decide (65 ≤ c.toNat) && decide (c.toNat ≤ 90)
def isLowB (c : UInt8) : Bool := decide (97 ≤ c.toNat) && decide (c.toNat ≤ 122)
def schB (c : UInt8) : Bool := isLowB c || (decide (48 ≤ c.toNat) && decide (c.toNat ≤ 57)) || decide (c = 43) || decide (c = 45) || decide (c = 46)
def lowU (c : UInt8) : UInt8 := if isUpB c = true then c + 32 else c
def smallU (l : List UInt8) : List UInt8 := l.map lowU
/-- A scheme that is told. -/
def schemeS (l : List UInt8) : Bool := (match l with | [] => false | c :: _ => isLowB c) && l.all schB
/-- At the `:` that stands ahead of any other one, and of any `/`. -/
def cutC : List UInt8 → Option (List UInt8 × List UInt8)
  | [] => none
  | c :: r => if c = 58 then some ([], r) else if c = 47 then none else (cutC r).map fun x => (c :: x.1, x.2)
def preS (l : List UInt8) : Bool := l.head? == some 47
def preSS : List UInt8 → Bool
  | a :: b :: _ => (a == 47) && (b == 47)
  | _ => false

def wrtU (u : UL) : Bool :=
  (u.sch.isEmpty || schemeS u.sch) && betw 33 126 hostN u.hst && betw 33 126 pathN u.pth && betw 33 126 fragN u.qry && betw 33 126 fragN u.frg && u.hst.all fun c => !isUpB c
def likeU (u : UL) : Bool := !u.hh && preSS u.pth
def frmU (u : UL) : Bool :=
  if (!u.hh && !u.hst.isEmpty) || (!u.hq && !u.qry.isEmpty) || (!u.hf && !u.frg.isEmpty) then false
  else if u.hh then u.pth.isEmpty || preS u.pth
  else if likeU u then false else !u.sch.isEmpty || (cutC u.pth).isNone
def opt (b : Bool) (l : List UInt8) : List UInt8 := if b then l else []
def textU (u : UL) : List UInt8 := opt (!u.sch.isEmpty) (u.sch ++ [58]) ++ (opt u.hh ([47, 47] ++ u.hst) ++ (u.pth ++ (opt u.hq (63 :: u.qry) ++ opt u.hf (35 :: u.frg))))
def longU (u : UL) : Bool := decide (120 < u.sch.length) || decide (120 < u.hst.length) || decide (120 < u.pth.length) || decide (120 < u.qry.length) || decide (120 < u.frg.length)
/-- What is wrong with an address: 0, or the error's number. -/
def checkU (u : UL) : Nat := if longU u then 2 else if wrtU u = false then 1 else if frmU u = false then 4 else if 120 < (textU u).length then 2 else 0

def cutO (d : UInt8) (l : List UInt8) : List UInt8 × List UInt8 × Bool := match cutB d l with | none => (l, [], false) | some x => (x.1, x.2, true)
/-- The host of what begins with two strokes, and the rest. -/
def cutH (l : List UInt8) : List UInt8 × List UInt8 := match cutB 47 l with | none => (l, []) | some x => (x.1, 47 :: x.2)
def hostU (sch l : List UInt8) (hq : Bool) (q : List UInt8) (hf : Bool) (f : List UInt8) : UL :=
  if preSS l then ⟨sch, true, smallU (cutH (l.drop 2)).1, (cutH (l.drop 2)).2, hq, q, hf, f⟩ else ⟨sch, false, [], l, hq, q, hf, f⟩
def checkedU (u : UL) : UL × Nat := if checkU u = 0 then (u, 0) else (noUL, checkU u)
def parseA (l : List UInt8) (hq : Bool) (q : List UInt8) (hf : Bool) (f : List UInt8) : UL × Nat :=
  match cutC l with
  | none => checkedU (hostU [] l hq q hf f)
  | some x => if schemeS (smallU x.1) = false then (noUL, 1) else checkedU (hostU (smallU x.1) x.2 hq q hf f)
/-- The address of which s is the text. -/
def parseU (s : List UInt8) : UL × Nat :=
  if 120 < s.length then (noUL, 2)
  else parseA (cutO 63 (cutO 35 s).1).1 (cutO 63 (cutO 35 s).1).2.2 (cutO 63 (cutO 35 s).1).2.1 (cutO 35 s).2.2 (cutO 35 s).2.1
def printU (u : UL) : List UInt8 × Nat := if checkU u = 0 then (textU u, 0) else ([], checkU u)

/-- The parts between strokes: the first one, and the others. -/
def splitP : List UInt8 → List UInt8 × List (List UInt8)
  | [] => ([], [])
  | c :: r => if c = 47 then ([], (splitP r).1 :: (splitP r).2) else (c :: (splitP r).1, (splitP r).2)
def partsP (l : List UInt8) : List (List UInt8) := (splitP l).1 :: (splitP l).2
def joinP : List (List UInt8) → List UInt8
  | [] => []
  | a :: t => joinG [47] a t
def isDot (s : List UInt8) : Bool := (s == [46]) || (s == [46, 46])
def backP (s : List UInt8) (left : List (List UInt8)) : List (List UInt8) := if (s == [46, 46]) && decide (1 < left.length) then left.dropLast else left
def dotsGo : List (List UInt8) → List (List UInt8) → List (List UInt8)
  | [], left => left
  | s :: r, left => if isDot s then dotsGo r (if r.isEmpty then backP s left ++ [[]] else backP s left) else dotsGo r (left ++ [s])
def undotU (p : List UInt8) : List UInt8 := joinP (dotsGo (partsP p) [])

/-- Up to the last stroke. -/
def dirP (l : List UInt8) : List UInt8 := (l.reverse.dropWhile (fun c => !(c == 47))).reverse
def compU (b u : UL) : UL :=
  if u.hh then { u with sch := b.sch }
  else if u.pth.isEmpty then (if u.hq then { u with sch := b.sch, hh := b.hh, hst := b.hst, pth := b.pth } else { u with sch := b.sch, hh := b.hh, hst := b.hst, pth := b.pth, hq := b.hq, qry := b.qry })
  else if preS u.pth then { u with sch := b.sch, hh := b.hh, hst := b.hst }
  else if b.hh && b.pth.isEmpty then { u with sch := b.sch, hh := b.hh, hst := b.hst, pth := 47 :: u.pth }
  else { u with sch := b.sch, hh := b.hh, hst := b.hst, pth := dirP b.pth ++ u.pth }
def undU (u : UL) : UL := if u.hh || preS u.pth then { u with pth := undotU u.pth } else u
def fullU (b u : UL) : UL := if u.sch.isEmpty then compU b u else u
def endU (u : UL) : UL × Nat := if likeU u then (noUL, 4) else checkedU u
/-- Where u, found at b, leads to. -/
def leadU (b u : UL) : UL × Nat :=
  if checkU b ≠ 0 then (noUL, checkU b) else if checkU u ≠ 0 then (noUL, checkU u) else if b.sch.isEmpty then (noUL, 4) else endU (undU (fullU b u))

/-! Parts, joined and parted. -/
theorem splitP_free : ∀ l : List UInt8, ∀ x ∈ partsP l, ∀ c ∈ x, c ≠ 47
  | [] => by simp [partsP, splitP]
  | c :: r => by
    have ih := splitP_free r
    intro x hx
    unfold partsP splitP at hx
    split at hx
    · simp only [List.mem_cons] at hx
      rcases hx with rfl | hx
      · simp
      · exact ih x (by simp [partsP]; exact hx)
    · rename_i hc
      simp only [List.mem_cons] at hx
      rcases hx with rfl | hx
      · intro d hd
        rcases List.mem_cons.1 hd with rfl | hd
        · exact hc
        · exact ih _ (by simp [partsP]) d hd
      · exact ih x (by simp [partsP]; exact .inr hx)
theorem joinG_cons (s : List UInt8) (c : UInt8) (a : List UInt8) (t : List (List UInt8)) : joinG s (c :: a) t = c :: joinG s a t := by cases t <;> simp [joinG]
theorem join_split : ∀ l : List UInt8, joinG [47] (splitP l).1 (splitP l).2 = l
  | [] => rfl
  | c :: r => by
    have ih := join_split r
    unfold splitP
    split
    · rename_i hc; subst hc; simp only [joinG]; rw [ih]; rfl
    · simp only; rw [joinG_cons, ih]
theorem joinP_parts (l : List UInt8) : joinP (partsP l) = l := join_split l
theorem splitP_join : ∀ (t : List (List UInt8)) (a : List UInt8), (∀ x ∈ a :: t, ∀ c ∈ x, c ≠ 47) → splitP (joinG [47] a t) = (a, t)
  | [], a, h => by
    induction a with
    | nil => rfl
    | cons c a ih =>
      rw [joinG_cons, splitP, if_neg (h (c :: a) (by simp) c (by simp)), ih (fun x hx d hd => by simp at hx; subst hx; exact h (c :: x) (by simp) d (by simp [hd]))]
  | b :: t, a, h => by
    have ih := splitP_join t b (fun x hx => h x (by simp at hx ⊢; exact .inr hx))
    induction a with
    | nil => simp only [joinG, List.nil_append, List.cons_append]; rw [splitP, if_pos rfl, ih]
    | cons c a iha =>
      rw [joinG_cons, splitP, if_neg (h (c :: a) (by simp) c (by simp)), iha (fun x hx d hd => by
        rcases List.mem_cons.1 hx with rfl | hx
        · exact h (c :: x) (by simp) d (by simp [hd])
        · exact h x (List.mem_cons_of_mem _ hx) d hd)]
theorem parts_join (xs : List (List UInt8)) (hne : xs ≠ []) (h : ∀ x ∈ xs, ∀ c ∈ x, c ≠ 47) : partsP (joinP xs) = xs := by
  cases xs with
  | nil => exact absurd rfl hne
  | cons a t => unfold partsP joinP; rw [splitP_join t a h]
/-- The library's split at a stroke. -/
theorem split_parts (l : List UInt8) : Lib.splitK [47] 0 (Lib.count l [47]) l = partsP l := by
  have h := split_join 47 [] (splitP l).2 (splitP l).1 (splitP_free l)
  rw [join_split] at h
  exact h

theorem backP_sub (s : List UInt8) (left : List (List UInt8)) : ∀ x ∈ backP s left, x ∈ left := by
  intro x hx
  unfold backP at hx
  split at hx
  · exact List.dropLast_subset left hx
  · exact hx
theorem backP_ne (s : List UInt8) (left : List (List UInt8)) (h : left ≠ []) : backP s left ≠ [] := by
  unfold backP
  split
  · rename_i h2
    simp at h2
    intro e
    have := congrArg List.length e
    simp at this
    omega
  · exact h
/-- No dots are left. -/
theorem dotsGo_free : ∀ (ps left : List (List UInt8)), (∀ x ∈ left, isDot x = false) → ∀ x ∈ dotsGo ps left, isDot x = false
  | [], left, h => by simpa [dotsGo] using h
  | s :: r, left, h => by
    rw [dotsGo]
    split
    · refine dotsGo_free r _ ?_
      intro x hx
      split at hx
      · rcases List.mem_append.1 hx with hx | hx
        · exact h x (backP_sub s left x hx)
        · simp at hx; subst hx; rfl
      · exact h x (backP_sub s left x hx)
    · rename_i hs
      refine dotsGo_free r _ ?_
      intro x hx
      rcases List.mem_append.1 hx with hx | hx
      · exact h x hx
      · simp at hx; subst hx; simpa using hs
theorem dotsGo_mem : ∀ (ps left : List (List UInt8)) (x : List UInt8), x ∈ dotsGo ps left → x ∈ left ∨ x ∈ ps ∨ x = []
  | [], left, x, h => .inl (by simpa [dotsGo] using h)
  | s :: r, left, x, h => by
    rw [dotsGo] at h
    split at h
    · rcases dotsGo_mem r _ x h with h | h | h
      · split at h
        · rcases List.mem_append.1 h with h | h
          · exact .inl (backP_sub s left x h)
          · simp at h; exact .inr (.inr h)
        · exact .inl (backP_sub s left x h)
      · exact .inr (.inl (by simp [h]))
      · exact .inr (.inr h)
    · rcases dotsGo_mem r _ x h with h | h | h
      · rcases List.mem_append.1 h with h | h
        · exact .inl h
        · simp at h; exact .inr (.inl (by simp [h]))
      · exact .inr (.inl (by simp [h]))
      · exact .inr (.inr h)
theorem dotsGo_ne : ∀ (ps left : List (List UInt8)), left ≠ [] → dotsGo ps left ≠ []
  | [], left, h => by simpa [dotsGo] using h
  | s :: r, left, h => by
    rw [dotsGo]
    split
    · refine dotsGo_ne r _ ?_
      split
      · simp
      · exact backP_ne s left h
    · exact dotsGo_ne r _ (by simp)
theorem dotsGo_none : ∀ (ps left : List (List UInt8)), (∀ x ∈ ps, isDot x = false) → dotsGo ps left = left ++ ps
  | [], left, _ => by simp [dotsGo]
  | s :: r, left, h => by
    rw [dotsGo, if_neg (by rw [h s (by simp)]; simp), dotsGo_none r _ (fun x hx => h x (by simp [hx]))]
    simp
/-- What begins with a stroke, or is empty. -/
theorem dotsGo_parts (p : List UInt8) (h : p = [] ∨ preS p = true) : dotsGo (partsP p) [] ≠ [] := by
  rcases h with rfl | h
  · simp [partsP, splitP, dotsGo, isDot]
  · cases p with
    | nil => cases h
    | cons c p =>
      have hc : c = 47 := by simpa [preS] using h
      subst hc
      unfold partsP splitP
      rw [if_pos rfl, dotsGo, if_neg (show ¬ isDot [] = true by decide)]
      exact dotsGo_ne _ _ (by simp)
theorem undot_parts (p : List UInt8) (h : p = [] ∨ preS p = true) : partsP (undotU p) = dotsGo (partsP p) [] := by
  refine parts_join _ (dotsGo_parts p h) ?_
  intro x hx
  rcases dotsGo_mem _ _ x hx with h | h | h
  · cases h
  · exact splitP_free p x h
  · subst h; simp
theorem undot_free (p : List UInt8) (h : p = [] ∨ preS p = true) : ∀ x ∈ partsP (undotU p), isDot x = false := by
  rw [undot_parts p h]
  exact dotsGo_free _ _ (by simp)
theorem undot_self (p : List UInt8) (h : ∀ x ∈ partsP p, isDot x = false) : undotU p = p := by
  unfold undotU
  rw [dotsGo_none _ _ h, List.nil_append, joinP_parts]
theorem undot_undot (p : List UInt8) (h : p = [] ∨ preS p = true) : undotU (undotU p) = undotU p := undot_self _ (undot_free p h)
end Go.Proofs.YtjngeofnoogkfabDoor

/- What the walks of this seat share: bytes and numbers that lie behind an address, rows that the call owns, small equations. No function of the program. -/
namespace Go.Proofs.YtjngeofnoogkfabDoor
open Go.RowKit

/-- n numbers lie behind the address p (where n is 0 nothing is said of p). -/
def Row (k : IntKind) (w : World) (p : Option Addr) (n : Nat) (xs : List Int) : Prop :=
  xs.length = n ∧ (n ≠ 0 → ∃ b o, p = some ⟨b, o, none⟩ ∧ ∀ i, i < n → w.cell? ⟨b, o + i, none⟩ = some (.int k (xs.getD i 0)))

theorem ret_bool {a b : Bool} (h : a = b) : Ending.returned (.bool a) = .returned (.bool b) := by rw [h]

theorem ret_u8 {a b : Int} (h : a = b) : Ending.returned (.int .u8 a) = .returned (.int .u8 b) := by rw [h]

theorem ret_i64 {a b : Int} (h : a = b) : Ending.returned (.int .i64 a) = .returned (.int .i64 b) := by rw [h]

theorem int_eq {k : IntKind} {a b : Int} (h : a = b) : Value.int k a = Value.int k b := by rw [h]
theorem str_push (X : List UInt8) (c : UInt8) : Value.string ((⟨X.toArray⟩ : ByteArray) ++ ⟨#[c]⟩) = Value.string ⟨(X ++ [c]).toArray⟩ := by
  congr 1
theorem str_two (X : List UInt8) (c d : UInt8) : Value.string ((⟨X.toArray⟩ : ByteArray) ++ ⟨#[c, d]⟩) = Value.string ⟨(X ++ [c, d]).toArray⟩ := by
  congr 1

/-- The bytes l lie behind the address p. -/
def BRow (w : World) (p : Option Addr) (l : List UInt8) : Prop :=
  l ≠ [] → ∃ b o, p = some ⟨b, o, none⟩ ∧ ∀ i, i < l.length → w.cell? ⟨b, o + i, none⟩ = some (.int .u8 ((l.getD i 0).toNat : Int))

theorem getD_none (x : List UInt8) (j : Nat) (h : ¬ j < x.length) : x.getD j 0 = 0 := by
  rw [List.getD_eq_getElem?_getD, List.getElem?_eq_none (by omega)]; rfl

def bv (l : List UInt8) : List Value := l.map fun c => Value.int .u8 (c.toNat : Int)
theorem bv_length (l : List UInt8) : (bv l).length = l.length := by simp [bv]
theorem bv_append (l m : List UInt8) : bv (l ++ m) = bv l ++ bv m := by simp [bv]

theorem info_u8 : (Tryd.prog.info? 5).map (fun i => (i.zero, i.size, i.bytes)) = some (some (.int .u8 0), 1, 1) := by kernel_rfl

theorem cell_one (w : World) (v : Value) (t : TypeId) {u : Value} (h : v = u) : ∀ j x, [u][j]? = some x → (w.alloc (.cells #[v] t)).cell? ((⟨w.heap.size, 0, none⟩ : Addr).add j) = some x := by
  subst h
  intro j x hj
  match j, hj with
  | 0, hj => simp at hj; subst hj; simp [Addr.add]
theorem cell_two (w : World) (v v' : Value) (t : TypeId) : ∀ j x, [v, v'][j]? = some x → (w.alloc (.cells #[v, v'] t)).cell? ((⟨w.heap.size, 0, none⟩ : Addr).add j) = some x := by
  intro j x hj
  match j, hj with
  | 0, hj => simp at hj; subst hj; simp [Addr.add]
  | 1, hj => simp at hj; subst hj; simp [Addr.add]
theorem push_below {B e n : Nat} {w0 wr w1 : World} {o : Obj} {v : Value} {xs : List Value} (hown : wr.ownsRow B e 1 v n xs) (hbel : Below B w0 wr) (hB : B ≤ wr.heap.size) (hg : (wr.alloc o).grownBy w1 v.ownBlock) : Below B w0 w1 :=
  (hbel.alloc hB o).grown hg (by simp; omega) fun k hk => (hown.lt k hk).1

theorem cell_three (w : World) (v v' v'' : Value) (t : TypeId) : ∀ j x, [v, v', v''][j]? = some x → (w.alloc (.cells #[v, v', v''] t)).cell? ((⟨w.heap.size, 0, none⟩ : Addr).add j) = some x := by
  intro j x hj
  match j, hj with
  | 0, hj => simp at hj; subst hj; simp [Addr.add]
  | 1, hj => simp at hj; subst hj; simp [Addr.add]
  | 2, hj => simp at hj; subst hj; simp [Addr.add]

theorem convert_nil (w : World) : (convert 63 9 (.slice none 0 0)).run Tryd.prog w = .ok (.string ⟨#[]⟩) w := by
  rw [run_convert_bytes_string w 63 9 5 none 0 0 Tryd.underlying63 Tryd.underlying5 Tryd.underlying9]
  rfl

def iv (l : List Nat) : List Value := l.map fun (n : Nat) => Value.int .i64 (n : Int)
theorem info_int : (Tryd.prog.info? 3).map (fun i => (i.zero, i.size, i.bytes)) = some (some (.int .i64 0), 1, 8) := by kernel_rfl
theorem one_int {k : IntKind} (n : Int) : ∀ u ∈ [Value.int k n], u.oneCell' = true := by
  intro u hu; simp at hu; subst hu; rfl

/-- What is owned lies there. -/
theorem owned_row {w : World} {B : Nat} {v : Value} {l : List UInt8} (h : w.ownsRow B 5 1 v l.length (bv l)) :
    ∃ p c, v = .slice p l.length c ∧ l.length ≤ c ∧ c ≤ maxLen ∧ (p = none → l.length = 0 ∧ c = 0) ∧ BRow w p l := by
  rcases h.2 with ⟨rfl, h0⟩ | ⟨g, cap, cur, rfl, hg, hh, hnc, hcp, hcs, htake⟩
  · refine ⟨none, 0, by rw [h0], by omega, by decide, fun _ => ⟨h0, rfl⟩, fun hne => absurd (List.length_eq_zero_iff.1 h0) hne⟩
  · refine ⟨some ⟨g, 0, none⟩, cap, rfl, hnc, hcp, fun e => (by cases e), fun _ => ⟨g, 0, rfl, fun i hi => ?_⟩⟩
    rw [Nat.zero_add, h.cellAt i (by omega)]
    simp [bv, hi, List.getD_eq_getElem?_getD]

theorem BRow.below {w w' : World} {p : Option Addr} {l : List UInt8} (h : BRow w p l) (hb : Below w.heap.size w w') : BRow w' p l := by
  intro hne
  obtain ⟨b, o, rfl, hc⟩ := h hne
  refine ⟨b, o, rfl, fun i hi => ?_⟩
  have := hc i hi
  rw [hb.cell (p := ⟨b, o + i, none⟩) (World.block_lt_of_cell? w _ this)]
  exact this

/-- A slice of integers that came in: nil, or a row of 'cap' numbers, of which the first 'len' are its elements. -/
def IsRow (k : IntKind) (w : World) (a : Option Addr) (len cap : Nat) (zs : List Int) : Prop :=
  (a = none ∧ len = 0 ∧ cap = 0 ∧ zs = []) ∨
  ∃ x, a = some x ∧ len ≤ cap ∧ cap ≤ maxLen ∧ zs.length = cap ∧ (∀ i, i < zs.length → w.cell? (x.add i) = some (.int k (zs.getD i 0))) ∧ ∀ n ∈ zs, (Lit.int k n).wf = true

theorem isRow_bytes {w : World} {a : Option Addr} {len cap : Nat} {zs : List Int} (h : IsRow .u8 w a len cap zs) :
    ∃ L : List UInt8, L.length = len ∧ len ≤ cap ∧ cap ≤ maxLen ∧ (a = none → len = 0 ∧ cap = 0) ∧ BRow w a L := by
  rcases h with ⟨rfl, rfl, rfl, rfl⟩ | ⟨x, rfl, hl, hm, hz, hcell, hwz⟩
  · exact ⟨[], rfl, Nat.le_refl _, by decide, fun _ => ⟨rfl, rfl⟩, fun h => absurd rfl h⟩
  · refine ⟨(zs.take len).map fun z => UInt8.ofNat z.toNat, by simp; omega, hl, hm, fun e => (by cases e), fun hne => ?_⟩
    have hpos : 0 < len := by
      rcases Nat.eq_zero_or_pos len with e | e
      · subst e; exact absurd (by simp) hne
      · exact e
    obtain ⟨b, o, spot⟩ := x
    have h0 := hcell 0 (by omega)
    have hspot : spot = none := by simpa [Addr.add] using World.cell?_spot h0
    subst hspot
    refine ⟨b, o, rfl, fun i hi => ?_⟩
    have hi' : i < zs.length := by simp at hi; omega
    have hil : i < len := by simp at hi; omega
    have hc := hcell i hi'
    rw [Addr.add_lit] at hc
    rw [hc]
    have hb := bounds_u8 (hwz _ (List.getElem_mem hi'))
    have e1 : zs.getD i 0 = zs[i] := by simp [List.getD_eq_getElem?_getD, List.getElem?_eq_getElem hi']
    have e2 : ((zs.take len).map fun z => UInt8.ofNat z.toNat).getD i 0 = UInt8.ofNat zs[i].toNat := by
      simp [List.getD_eq_getElem?_getD, hil, List.getElem?_eq_getElem hi']
    rw [e1, e2]
    congr 2
    simp
    omega

theorem BRow.take {w : World} {p : Option Addr} {l : List UInt8} (h : BRow w p l) (m : Nat) : BRow w p (l.take m) := by
  intro hne
  obtain ⟨b, o, rfl, hc⟩ := h (fun e => hne (by rw [e]; simp))
  refine ⟨b, o, rfl, fun i hi => ?_⟩
  rw [List.length_take] at hi
  rw [hc i (by omega)]
  simp [List.getD_eq_getElem?_getD, show i < m by omega]
theorem BRow.drop {w : World} {b o : Nat} {l : List UInt8} (hc : ∀ i, i < l.length → w.cell? ⟨b, o + i, none⟩ = some (.int .u8 ((l.getD i 0).toNat : Int))) (m : Nat) : BRow w (some ⟨b, o + m, none⟩) (l.drop m) := by
  intro hne
  refine ⟨b, o + m, rfl, fun i hi => ?_⟩
  rw [List.length_drop] at hi
  rw [Nat.add_assoc, hc (m + i) (by omega)]
  simp [List.getD_eq_getElem?_getD]

def nums (l : List UInt8) : List Int := l.map fun c => (c.toNat : Int)
theorem brow_row {w : World} {p : Option Addr} {l : List UInt8} (h : BRow w p l) : Row .u8 w p l.length (nums l) := by
  refine ⟨by simp [nums], fun hn => ?_⟩
  obtain ⟨b, o, rfl, hc⟩ := h (fun e => hn (by rw [e]; rfl))
  refine ⟨b, o, rfl, fun i hi => ?_⟩
  rw [hc i hi]
  simp [nums, List.getD_eq_getElem?_getD, List.getElem?_eq_getElem hi]


def ReadPost (w : World) (out : List UInt8 × Nat) (e : Ending) (w' : World) : Prop :=
  Below w.heap.size w w' ∧ ∃ p c, e = .returned (.tuple #[.slice p out.1.length c, .int .i64 (out.2 : Int)]) ∧ out.1.length ≤ c ∧ c ≤ maxLen ∧ BRow w' p out.1

theorem readPost_none {w w' : World} (hb : Below w.heap.size w w') (n : Nat) : ReadPost w ([], n) (.returned (.tuple #[.slice none 0 0, .int .i64 (n : Int)])) w' :=
  ⟨hb, none, 0, rfl, Nat.le_refl _, by decide, fun h => absurd rfl h⟩


/-- 'append' to a row that the call owns, as one step of a region that draws its order. -/
theorem step_append_own {P : Program} {ops : Array Oper} {o : Oper} {a : Act} {w : World} {K : Act → World → Prop} {Q : Exit → Act → World → Prop} {E : Prop}
    (hg : o.guard = none) (s x : Operand) (t : TypeId) (hop : o.op = Op.call { callee := Callee.builtin Builtin.append, args := #[s, x], argTypes := #[t, t] })
    (base : Nat) (e : TypeId) (i : TypeInfo) (z : Value) (size bytes : Nat) (h1 : P.underlying t = some (.slice e)) (h2 : P.info? e = some i) (h3 : i.zero = some z) (h4 : i.size = size) (h5 : i.bytes = bytes) (h6 : z.cells.size = size) (h7 : 0 < size)
    (v : Value) (n : Nat) (xs : List Value) (hs : a.eval s = v) (hown : w.ownsRow base e size v n xs)
    (ad : Addr) (m c : Nat) (news : List Value) (hx : a.eval x = .slice (some ad) m c) (hn : news.length = m * size) (hc : ∀ j u, news[j]? = some u → w.cell? (ad.add j) = some u) (h1c : ∀ u ∈ news, u.oneCell' = true)
    (b1 : n + m ≤ maxLen) (b2 : (n + m) * bytes ≤ 140737488355328) (hbase : base ≤ w.heap.size)
    (hK : ∀ v' w', w'.ownsRow base e size v' (n + m) (xs ++ news) → w.grownBy w' v.ownBlock → K (a.put o.dst v') w') :
    if Region.wanted o (yielded ops a.tmps) = true then Oper.wp P o a w K Q else E := by
  have hw : Region.wanted o (yielded ops a.tmps) = true := by simp [Region.wanted, hg]
  rw [if_pos hw]
  obtain ⟨v', w', hrun, r1, r2, _⟩ := run_append_own (P := P) w base t o.type e i z size bytes h1 h2 h3 h4 h5 h6 h7 v n xs hown ad m c news hn hc h1c b1 b2 hbase
  unfold Oper.wp
  simp [execOp, hop, resolve, invoke, builtin, hs, hx, hrun, Result.andThen]
  exact hK v' w' r1 r2

theorem push_below_drew {B e n : Nat} {w0 wr w1 : World} {o : Obj} {v : Value} {xs : List Value} (hown : wr.ownsRow B e 1 v n xs) (hbel : Below B w0 wr) (hB : B ≤ wr.heap.size) (hg : (wr.alloc o).drew.grownBy w1 v.ownBlock) : Below B w0 w1 :=
  ((hbel.alloc hB o).drew).grown hg (by simp; omega) fun k hk => (hown.lt k hk).1

theorem ownsRow_below {w w' : World} {B e size n : Nat} {v : Value} {xs : List Value} (h : w.ownsRow B e size v n xs) (hb : Below w.heap.size w w') : w'.ownsRow B e size v n xs := by
  refine ⟨h.1, ?_⟩
  rcases h.2 with hn | ⟨g, cap, cur, rfl, hg, hh, rest⟩
  · exact .inl hn
  · refine .inr ⟨g, cap, cur, rfl, hg, ?_, rest⟩
    rw [hb.block g (Array.getElem?_eq_some_iff.1 hh).1]
    exact hh

def strLen : Value → Nat
  | .string s => s.size
  | _ => 0
end Go.Proofs.YtjngeofnoogkfabDoor

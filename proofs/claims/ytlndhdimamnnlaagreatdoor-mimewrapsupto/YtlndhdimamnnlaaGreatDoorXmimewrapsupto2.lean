/- Plain facts on parts: a part as a tree; what is put into the list of places; what is wrong with a part by itself. No program. -/
import Derived.Test.YtlndhdimamnnlaaGreatDoorXmimewrapsupto1
import Derived.Lib.Strings
import Derived.Test.YtlndhdimamnnlaaGreatDoorRows
import Derived.Lib.CaseU
import Derived.Lib.MapLaws
import Derived.Lib.TrimUEq
import Derived.Shelf.Unicode.CaseLaid
namespace Go.Proofs.YtlndhdimamnnlaaGreatDoor

/-- A part: texts, a number, bytes, the parts in it. -/
structure PT where
  ty : ByteArray
  cs : ByteArray
  id : ByteArray
  loc : ByteArray
  how : Int
  body : List UInt8
  kids : List PT

def pt0 : PT := ⟨⟨#[]⟩, ⟨#[]⟩, ⟨#[]⟩, ⟨#[]⟩, 0, [], []⟩
def PT.alone (p : PT) : PT := { p with kids := [] }

def multi : List UInt8 := [109, 117, 108, 116, 105, 112, 97, 114, 116, 47]
def typeS (s : List UInt8) : Bool := match cutB 47 s with
  | none => false
  | some x => tokenS x.1 && tokenS x.2 && !s.any (fun c => decide (65 ≤ c.toNat) && decide (c.toNat ≤ 90))
def manyS (s : List UInt8) : Bool := Lib.hasPrefix s multi
def wordC : UInt8 → Bool := inB 33 126 [34, 60, 62]
def wordS (s : List UInt8) : Bool := decide (s.length ≤ 120) && s.all wordC
def textsOk (p : PT) : Bool := typeS p.ty.data.toList && (p.cs.data.toList.isEmpty || tokenS p.cs.data.toList) && wordS p.id.data.toList && wordS p.loc.data.toList
def formedP (p : PT) : Bool :=
  if manyS p.ty.data.toList then !p.kids.isEmpty && p.body.isEmpty && decide (p.how = 0) && p.cs.data.toList.isEmpty
  else p.kids.isEmpty
def chkA (p : PT) : Nat :=
  if textsOk p = false then 1 else if p.how < 0 ∨ 2 < p.how then 3 else if 4000 < p.body.length then 2 else if formedP p = false then 4 else 0

/-- The list of places, a part and all in it put behind; none: too many, or too deep. -/
def put : Nat → List (PT × Int) → PT → Nat → Int → Option (List (PT × Int))
  | 0, _, _, _, _ => none
  | f + 1, l, p, depth, inn =>
    if l.length = 12 ∨ 3 < depth then none
    else p.kids.foldl (fun acc k => acc.bind fun m => put f m k (depth + 1) l.length) (some (l ++ [(p, inn)]))
def putAll (f : Nat) (depth : Nat) (inn : Int) (l : List (PT × Int)) (ks : List PT) : Option (List (PT × Int)) :=
  ks.foldl (fun acc k => acc.bind fun m => put f m k depth inn) (some l)
theorem foldl_none (f : Nat) (depth : Nat) (inn : Int) : ∀ ks : List PT, ks.foldl (fun acc k => acc.bind fun m => put f m k depth inn) none = none
  | [] => rfl
  | _ :: ks => by rw [List.foldl_cons]; exact foldl_none f depth inn ks
theorem putAll_nil (f depth : Nat) (inn : Int) (l : List (PT × Int)) : putAll f depth inn l [] = some l := rfl
theorem putAll_some (f depth : Nat) (inn : Int) (l m : List (PT × Int)) (k : PT) (ks : List PT) (h : put f l k depth inn = some m) : putAll f depth inn l (k :: ks) = putAll f depth inn m ks := by
  unfold putAll; rw [List.foldl_cons, Option.bind_some, h]
theorem putAll_none (f depth : Nat) (inn : Int) (l : List (PT × Int)) (k : PT) (ks : List PT) (h : put f l k depth inn = none) : putAll f depth inn l (k :: ks) = none := by
  unfold putAll; rw [List.foldl_cons, Option.bind_some, h, foldl_none]
theorem put_stop (f : Nat) (l : List (PT × Int)) (p : PT) (depth : Nat) (inn : Int) (h : l.length = 12 ∨ 3 < depth) : put (f + 1) l p depth inn = none := by rw [put, if_pos h]
theorem put_go (f : Nat) (l : List (PT × Int)) (p : PT) (depth : Nat) (inn : Int) (h : ¬ (l.length = 12 ∨ 3 < depth)) : put (f + 1) l p depth inn = putAll f (depth + 1) l.length (l ++ [(p, inn)]) p.kids := by rw [put, if_neg h]; rfl

theorem putAll_length (f : Nat) (ih : ∀ l m p depth inn, l.length ≤ 12 → put f l p depth inn = some m → l.length ≤ m.length ∧ m.length ≤ 12) (depth : Nat) (inn : Int) : ∀ (ks : List PT) (l m : List (PT × Int)), l.length ≤ 12 → putAll f depth inn l ks = some m → l.length ≤ m.length ∧ m.length ≤ 12
  | [], l, m, hl, h => by rw [putAll_nil] at h; cases h; exact ⟨Nat.le_refl _, hl⟩
  | k :: ks, l, m, hl, h => by
    cases hk : put f l k depth inn with
    | none => rw [putAll_none f depth inn l k ks hk] at h; cases h
    | some n =>
      rw [putAll_some f depth inn l n k ks hk] at h
      have h1 := ih l n k depth inn hl hk
      have h2 := putAll_length f ih depth inn ks n m h1.2 h
      omega
theorem put_length : ∀ (f : Nat) (l m : List (PT × Int)) (p : PT) (depth : Nat) (inn : Int), l.length ≤ 12 → put f l p depth inn = some m → l.length ≤ m.length ∧ m.length ≤ 12
  | 0, _, _, _, _, _, _, h => by rw [put] at h; cases h
  | f + 1, l, m, p, depth, inn, hl, h => by
    by_cases hs : l.length = 12 ∨ 3 < depth
    · rw [put_stop f l p depth inn hs] at h; cases h
    · rw [put_go f l p depth inn hs] at h
      have := putAll_length f (put_length f) (depth + 1) l.length p.kids (l ++ [(p, inn)]) m (by rw [List.length_append]; simp; omega) h
      rw [List.length_append] at this
      omega

/-- The first thing that is wrong. -/
def firstBad : List (PT × Int) → Nat
  | [] => 0
  | x :: l => if chkA x.1 = 0 then firstBad l else chkA x.1
def placesP (p : PT) : Nat × List (PT × Int) := match put 4 [] p 1 (-1) with
  | none => (2, [])
  | some l => if firstBad l = 0 then (0, l) else (firstBad l, [])
end Go.Proofs.YtlndhdimamnnlaaGreatDoor

/- Plain facts on runes: unicode.SimpleFold as a plain function of the tables that the row lists; it gives the rune back behind one to four steps, at every rune of the case table and at the first 128. No program. -/
namespace Go.Proofs.YtlndhdimamnnlaaGreatDoor
open Go.Lib

def orbOf : DataW Unit → List (Nat × Nat)
  | .slice els _ => els.filterMap fun
    | .agg [.lit (.int _ a), .lit (.int _ b)] => some (a.toNat, b.toNat)
    | _ => none
  | _ => []
def ascOf : DataW Unit → List Nat
  | .agg els => els.filterMap fun
    | .lit (.int _ a) => some a.toNat
    | _ => none
  | _ => []
def orb : List (Nat × Nat) := orbOf Rows.laid_unicode_caseOrbit
def asc : List Nat := ascOf Rows.laid_unicode_asciiFold

def sfold (r : Nat) : Nat :=
  if r < 128 then asc.getD r 0
  else match orb.find? (fun x => x.1 == r) with
    | some x => x.2
    | none => match lookupIdx caseA r (caseA.size + 1) 0 caseA.size with
      | some i => if convertR 1 r (caseA.getD i (0, 0, 0, 0, 0)) ≠ r then (convertR 1 r (caseA.getD i (0, 0, 0, 0, 0))).toNat else (convertR 0 r (caseA.getD i (0, 0, 0, 0, 0))).toNat
      | none => r
def foldsBack (r : Nat) : Bool := sfold r == r || sfold (sfold r) == r || sfold (sfold (sfold r)) == r || sfold (sfold (sfold (sfold r))) == r
def rowsBack (a b : Nat) : Bool := ((caseT.drop a).take b).all fun x => (List.range (x.2.1 + 1 - x.1)).all fun k => foldsBack (x.1 + k)
set_option maxRecDepth 1000000 in
theorem ascBack : (List.range 128).all foldsBack = true := by decide +kernel
set_option maxRecDepth 1000000 in
theorem back0 : rowsBack 0 8 = true := by decide +kernel
set_option maxRecDepth 1000000 in
theorem back8 : rowsBack 8 8 = true := by decide +kernel
set_option maxRecDepth 1000000 in
theorem back16 : rowsBack 16 8 = true := by decide +kernel
set_option maxRecDepth 1000000 in
theorem back24 : rowsBack 24 8 = true := by decide +kernel
set_option maxRecDepth 1000000 in
theorem back32 : rowsBack 32 8 = true := by decide +kernel
set_option maxRecDepth 1000000 in
theorem back40 : rowsBack 40 8 = true := by decide +kernel
set_option maxRecDepth 1000000 in
theorem back48 : rowsBack 48 8 = true := by decide +kernel
set_option maxRecDepth 1000000 in
theorem back56 : rowsBack 56 8 = true := by decide +kernel
set_option maxRecDepth 1000000 in
theorem back64 : rowsBack 64 8 = true := by decide +kernel
set_option maxRecDepth 1000000 in
theorem back72 : rowsBack 72 8 = true := by decide +kernel
set_option maxRecDepth 1000000 in
theorem back80 : rowsBack 80 8 = true := by decide +kernel
set_option maxRecDepth 1000000 in
theorem back88 : rowsBack 88 8 = true := by decide +kernel
set_option maxRecDepth 1000000 in
theorem back96 : rowsBack 96 8 = true := by decide +kernel
set_option maxRecDepth 1000000 in
theorem back104 : rowsBack 104 8 = true := by decide +kernel
set_option maxRecDepth 1000000 in
theorem back112 : rowsBack 112 8 = true := by decide +kernel
set_option maxRecDepth 1000000 in
theorem back120 : rowsBack 120 8 = true := by decide +kernel
set_option maxRecDepth 1000000 in
theorem back128 : rowsBack 128 8 = true := by decide +kernel
set_option maxRecDepth 1000000 in
theorem back136 : rowsBack 136 8 = true := by decide +kernel
set_option maxRecDepth 1000000 in
theorem back144 : rowsBack 144 8 = true := by decide +kernel
set_option maxRecDepth 1000000 in
theorem back152 : rowsBack 152 8 = true := by decide +kernel
set_option maxRecDepth 1000000 in
theorem back160 : rowsBack 160 8 = true := by decide +kernel
set_option maxRecDepth 1000000 in
theorem back168 : rowsBack 168 8 = true := by decide +kernel
set_option maxRecDepth 1000000 in
theorem back176 : rowsBack 176 8 = true := by decide +kernel
set_option maxRecDepth 1000000 in
theorem back184 : rowsBack 184 8 = true := by decide +kernel
set_option maxRecDepth 1000000 in
theorem back192 : rowsBack 192 8 = true := by decide +kernel
set_option maxRecDepth 1000000 in
theorem back200 : rowsBack 200 8 = true := by decide +kernel
set_option maxRecDepth 1000000 in
theorem back208 : rowsBack 208 8 = true := by decide +kernel
set_option maxRecDepth 1000000 in
theorem back216 : rowsBack 216 8 = true := by decide +kernel
set_option maxRecDepth 1000000 in
theorem back224 : rowsBack 224 8 = true := by decide +kernel
set_option maxRecDepth 1000000 in
theorem back232 : rowsBack 232 8 = true := by decide +kernel
set_option maxRecDepth 1000000 in
theorem back240 : rowsBack 240 8 = true := by decide +kernel
set_option maxRecDepth 1000000 in
theorem back248 : rowsBack 248 8 = true := by decide +kernel
set_option maxRecDepth 1000000 in
theorem back256 : rowsBack 256 8 = true := by decide +kernel
set_option maxRecDepth 1000000 in
theorem back264 : rowsBack 264 8 = true := by decide +kernel
set_option maxRecDepth 1000000 in
theorem back272 : rowsBack 272 8 = true := by decide +kernel
set_option maxRecDepth 1000000 in
theorem back280 : rowsBack 280 8 = true := by decide +kernel
set_option maxRecDepth 1000000 in
theorem back288 : rowsBack 288 8 = true := by decide +kernel
set_option maxRecDepth 1000000 in
theorem back296 : rowsBack 296 8 = true := by decide +kernel
set_option maxRecDepth 1000000 in
theorem back304 : rowsBack 304 8 = true := by decide +kernel
set_option maxRecDepth 1000000 in
theorem back312 : rowsBack 312 8 = true := by decide +kernel
set_option maxRecDepth 1000000 in
theorem back320 : rowsBack 320 8 = true := by decide +kernel
set_option maxRecDepth 1000000 in
theorem back328 : rowsBack 328 8 = true := by decide +kernel
end Go.Proofs.YtlndhdimamnnlaaGreatDoor

/- Plain facts on runes: unicode.SimpleFold, as a plain function of the listed tables, gives the rune back behind one to four steps, at every rune. No program. -/
namespace Go.Proofs.YtlndhdimamnnlaaGreatDoor
open Go.Lib

theorem foldPieces : ∀ q : Nat, q < 42 → rowsBack (q * 8) 8 = true
  | 0, _ => back0
  | 1, _ => back8
  | 2, _ => back16
  | 3, _ => back24
  | 4, _ => back32
  | 5, _ => back40
  | 6, _ => back48
  | 7, _ => back56
  | 8, _ => back64
  | 9, _ => back72
  | 10, _ => back80
  | 11, _ => back88
  | 12, _ => back96
  | 13, _ => back104
  | 14, _ => back112
  | 15, _ => back120
  | 16, _ => back128
  | 17, _ => back136
  | 18, _ => back144
  | 19, _ => back152
  | 20, _ => back160
  | 21, _ => back168
  | 22, _ => back176
  | 23, _ => back184
  | 24, _ => back192
  | 25, _ => back200
  | 26, _ => back208
  | 27, _ => back216
  | 28, _ => back224
  | 29, _ => back232
  | 30, _ => back240
  | 31, _ => back248
  | 32, _ => back256
  | 33, _ => back264
  | 34, _ => back272
  | 35, _ => back280
  | 36, _ => back288
  | 37, _ => back296
  | 38, _ => back304
  | 39, _ => back312
  | 40, _ => back320
  | 41, _ => back328
  | n + 42, h => absurd h (by omega)

theorem row_back (i : Nat) (x : CaseRow) (hx : caseT[i]? = some x) (hi : i < 336) (r : Nat) (h1 : x.1 ≤ r) (h2 : r ≤ x.2.1) : foldsBack r = true := by
  have h := foldPieces (i / 8) (by omega)
  rw [rowsBack, List.all_eq_true] at h
  have hm : x ∈ (caseT.drop (i / 8 * 8)).take 8 := by
    refine List.mem_of_getElem? (i := i % 8) ?_
    rw [List.getElem?_take_of_lt (by omega), List.getElem?_drop, show i / 8 * 8 + i % 8 = i from by omega]
    exact hx
  have h3 := h x hm
  rw [List.all_eq_true] at h3
  have h4 := h3 (r - x.1) (by rw [List.mem_range]; omega)
  rwa [show x.1 + (r - x.1) = r from by omega] at h4

theorem lookup_in (T : Array CaseRow) (r : Int) : ∀ (f lo hi : Nat) (i : Nat), lookupIdx T r f lo hi = some i → i < hi ∧ ((T.getD i (0, 0, 0, 0, 0)).1 : Int) ≤ r ∧ r ≤ ((T.getD i (0, 0, 0, 0, 0)).2.1 : Int)
  | 0, _, _, _, h => by rw [lookupIdx] at h; cases h
  | f + 1, lo, hi, i, h => by
    rw [lookupIdx] at h
    by_cases h1 : lo < hi
    · rw [if_pos h1] at h
      by_cases h2 : ((T.getD ((lo + hi) / 2) (0, 0, 0, 0, 0)).1 : Int) ≤ r ∧ r ≤ ((T.getD ((lo + hi) / 2) (0, 0, 0, 0, 0)).2.1 : Int)
      · rw [if_pos h2] at h
        obtain rfl := Option.some.inj h
        exact ⟨by omega, h2⟩
      · rw [if_neg h2] at h
        by_cases h3 : r < ((T.getD ((lo + hi) / 2) (0, 0, 0, 0, 0)).1 : Int)
        · rw [if_pos h3] at h
          have := lookup_in T r f _ _ i h
          exact ⟨by omega, this.2⟩
        · rw [if_neg h3] at h
          exact lookup_in T r f _ _ i h
    · rw [if_neg h1] at h; cases h

theorem caseT_length : caseT.length = 336 := by decide +kernel
set_option maxRecDepth 1000000 in
theorem orbBack : orb.all (fun x => foldsBack x.1) = true := by decide +kernel

theorem sfold_far (r : Nat) (h : ¬ r < 128) (ho : orb.find? (fun x => x.1 == r) = none) (hl : lookupIdx caseA r (caseA.size + 1) 0 caseA.size = none) : sfold r = r := by
  rw [sfold, if_neg h, ho]
  simp only
  rw [hl]

theorem list_at (t : List CaseRow) (i : Nat) (hi : i < t.length) : t[i]? = some (t.toArray.getD i (0, 0, 0, 0, 0)) := by
  rw [List.getElem?_eq_getElem hi]
  simp [Array.getD, hi]

/-- One to four steps. -/
theorem folds_back (r : Nat) : foldsBack r = true := by
  by_cases h : r < 128
  · exact List.all_eq_true.1 ascBack r (by rw [List.mem_range]; exact h)
  · cases ho : orb.find? (fun x => x.1 == r) with
    | some x =>
      have hm := List.mem_of_find?_eq_some ho
      have he := List.find?_some ho
      have : x.1 = r := by simpa using he
      rw [← this]
      exact List.all_eq_true.1 orbBack x hm
    | none =>
      cases hl : lookupIdx caseA r (caseA.size + 1) 0 caseA.size with
      | none => rw [foldsBack, sfold_far r h ho hl]; simp
      | some i =>
        obtain ⟨hi, h1, h2⟩ := lookup_in caseA r _ _ _ i hl
        have hs : caseA.size = caseT.length := by rw [caseA, List.size_toArray]
        rw [hs, caseT_length] at hi
        have hx : caseT[i]? = some (caseA.getD i (0, 0, 0, 0, 0)) := list_at caseT i (by rw [caseT_length]; exact hi)
        exact row_back i _ hx hi r (by omega) (by omega)
end Go.Proofs.YtlndhdimamnnlaaGreatDoor

/- Plain facts on texts: strings.EqualFold as a plain function of two texts, rune by rune, over the plain SimpleFold; the listed tables are in order, and what they give are runes. No program. -/
namespace Go.Proofs.YtlndhdimamnnlaaGreatDoor
open Go.Lib

def lastF : Nat → Nat → Nat → Nat → Nat
  | 0, r, _, _ => r
  | f + 1, r, sr, tr => if r ≠ sr ∧ r < tr then lastF f (sfold r) sr tr else r
def twoR (a b : Nat) : Bool :=
  if b < 128 then decide (65 ≤ a ∧ a ≤ 90 ∧ b = a + 32)
  else decide (lastF 3 (sfold a) a b = b)
def eqRune (a b : Nat) : Bool := if b = a then true else if b < a then twoR b a else twoR a b
def foldL : Nat → List UInt8 → List UInt8 → Bool
  | 0, _, _ => false
  | f + 1, s, t =>
    if s = [] then decide (t = []) else if t = [] then false
    else if eqRune (decodeL s).1 (decodeL t).1 then foldL f (s.drop (decodeL s).2) (t.drop (decodeL t).2) else false
def eqByte (a b : Nat) : Bool := decide (b = a) || decide (65 ≤ a ∧ a ≤ 90 ∧ b = a + 32) || decide (65 ≤ b ∧ b ≤ 90 ∧ a = b + 32)
def eqF : List UInt8 → List UInt8 → Bool
  | a :: s, b :: t => if 128 ≤ (a.toNat ||| b.toNat) then foldL (s.length + 2) (a :: s) (b :: t) else if eqByte a.toNat b.toNat then eqF s t else false
  | [], t => decide (t = [])
  | _ :: _, [] => false

theorem eqF_end (s t : List UInt8) (h : s = [] ∨ t = []) : eqF s t = decide (s.length = t.length) := by
  cases s with
  | nil => cases t <;> simp [eqF]
  | cons a s => cases t with
    | nil => simp [eqF]
    | cons b t => simp at h
theorem eqF_far (a b : UInt8) (s t : List UInt8) (h : 128 ≤ (a.toNat ||| b.toNat)) : eqF (a :: s) (b :: t) = foldL (s.length + 2) (a :: s) (b :: t) := by rw [eqF, if_pos h]
theorem eqF_yes (a b : UInt8) (s t : List UInt8) (h : ¬ 128 ≤ (a.toNat ||| b.toNat)) (h2 : eqByte a.toNat b.toNat = true) : eqF (a :: s) (b :: t) = eqF s t := by rw [eqF, if_neg h, if_pos h2]
theorem eqF_no (a b : UInt8) (s t : List UInt8) (h : ¬ 128 ≤ (a.toNat ||| b.toNat)) (h2 : eqByte a.toNat b.toNat = false) : eqF (a :: s) (b :: t) = false := by rw [eqF, if_neg h, if_neg (by rw [h2]; decide)]
theorem foldL_end (f : Nat) (t : List UInt8) : foldL (f + 1) [] t = decide (t = []) := by rw [foldL, if_pos rfl]
theorem foldL_short (f : Nat) (s : List UInt8) (h : s ≠ []) : foldL (f + 1) s [] = false := by rw [foldL, if_neg h, if_pos rfl]
theorem foldL_step (f : Nat) (s t : List UInt8) (h : s ≠ []) (h2 : t ≠ []) : foldL (f + 1) s t = if eqRune (decodeL s).1 (decodeL t).1 then foldL f (s.drop (decodeL s).2) (t.drop (decodeL t).2) else false := by rw [foldL, if_neg h, if_neg h2]

/-- k steps of SimpleFold. -/
def itF : Nat → Nat → Nat
  | 0, r => r
  | k + 1, r => sfold (itF k r)
theorem itF_back (r : Nat) (h1 : itF 1 r ≠ r) (h2 : itF 2 r ≠ r) (h3 : itF 3 r ≠ r) : itF 4 r = r := by
  have h := folds_back r
  simp only [foldsBack, Bool.or_eq_true, beq_iff_eq] at h
  simp only [itF] at h1 h2 h3 ⊢
  omega

theorem orb_length : orb.length = 94 := by decide +kernel
theorem asc_length : asc.length = 128 := by decide +kernel
set_option maxRecDepth 1000000 in
theorem orb_sorted : orb.Pairwise (fun a b => a.1 < b.1) := by decide +kernel
set_option maxRecDepth 1000000 in
theorem orb_small : orb.all (fun x => decide (x.1 < 65536) && decide (x.2 < 65536)) = true := by decide +kernel
set_option maxRecDepth 1000000 in
theorem asc_small : asc.all (fun x => decide (x < 65536)) = true := by decide +kernel
def rowIn (x : CaseRow) : Bool := [0, 1].all fun c => (decide (x.delta c > 1114111) && decide (x.2.1 < 1114110)) || (decide (0 ≤ (x.1 : Int) + x.delta c) && decide ((x.2.1 : Int) + x.delta c ≤ 1114111))
set_option maxRecDepth 1000000 in
theorem rowsIn : caseT.all rowIn = true := by decide +kernel

theorem orb_lt (i j : Nat) (h : i < j) (hj : j < 94) : (orb.getD i (0, 0)).1 < (orb.getD j (0, 0)).1 := by
  have hl := orb_length
  have := (List.pairwise_iff_getElem.1 orb_sorted) i j (by omega) (by omega) h
  rw [List.getD_eq_getElem?_getD, List.getD_eq_getElem?_getD, List.getElem?_eq_getElem (by omega), List.getElem?_eq_getElem (by omega)]
  exact this
theorem orb_in (i : Nat) (hi : i < 94) : (orb.getD i (0, 0)).1 < 65536 ∧ (orb.getD i (0, 0)).2 < 65536 := by
  have hl := orb_length
  have hm : orb.getD i (0, 0) ∈ orb := by rw [List.getD_eq_getElem?_getD, List.getElem?_eq_getElem (by omega)]; exact List.getElem_mem _
  have := List.all_eq_true.1 orb_small _ hm
  generalize orb.getD i (0, 0) = x at *
  simpa using this
theorem asc_in (i : Nat) (hi : i < 128) : asc.getD i 0 < 65536 := by
  have hl := asc_length
  have hm : asc.getD i 0 ∈ asc := by rw [List.getD_eq_getElem?_getD, List.getElem?_eq_getElem (by omega)]; exact List.getElem_mem _
  have := List.all_eq_true.1 asc_small _ hm
  generalize asc.getD i 0 = x at *
  simpa using this
theorem find_at (r lo : Nat) (h : lo < 94) (he : (orb.getD lo (0, 0)).1 = r) : orb.find? (fun x => x.1 == r) = some (orb.getD lo (0, 0)) := by
  have hl := orb_length
  rw [List.find?_eq_some_iff_getElem]
  refine ⟨by simpa using he, lo, by omega, ?_, fun j hj => ?_⟩
  · rw [List.getD_eq_getElem?_getD, List.getElem?_eq_getElem (by omega)]; rfl
  · have := orb_lt j lo hj h
    rw [he, List.getD_eq_getElem?_getD, List.getElem?_eq_getElem (by omega)] at this
    have h2 : orb[j].1 < r := this
    simp only [Bool.not_eq_true', beq_eq_false_iff_ne, ne_eq]
    omega
theorem find_none (r lo : Nat) (h1 : ∀ i, i < lo → i < 94 → (orb.getD i (0, 0)).1 < r) (h2 : ∀ i, lo ≤ i → i < 94 → r ≤ (orb.getD i (0, 0)).1) (hn : ¬ (lo < 94 ∧ (orb.getD lo (0, 0)).1 = r)) : orb.find? (fun x => x.1 == r) = none := by
  have hl := orb_length
  rw [List.find?_eq_none]
  intro x hx
  obtain ⟨j, hj, rfl⟩ := List.mem_iff_getElem.1 hx
  have e : orb.getD j (0, 0) = orb[j] := by rw [List.getD_eq_getElem?_getD, List.getElem?_eq_getElem hj]; rfl
  have hne : orb[j].1 ≠ r := by
    rw [← e]
    by_cases hlt : j < lo
    · have := h1 j hlt (by omega); omega
    · by_cases hq : j = lo
      · subst hq; intro h; exact hn ⟨by omega, h⟩
      · have ha := h2 lo (by omega) (by omega)
        have hb := orb_lt lo j (by omega) (by omega)
        omega
  simpa using hne

theorem conv_in (i : Nat) (hi : i < caseA.size) (c : Nat) (hc : c < 2) (r : Int) (hlo : ((caseA.getD i (0, 0, 0, 0, 0)).1 : Int) ≤ r) (hhi : r ≤ ((caseA.getD i (0, 0, 0, 0, 0)).2.1 : Int)) :
    0 ≤ convertR c r (caseA.getD i (0, 0, 0, 0, 0)) ∧ convertR c r (caseA.getD i (0, 0, 0, 0, 0)) ≤ 1114111 := by
  have hm : caseA.getD i (0, 0, 0, 0, 0) ∈ caseT := by
    unfold caseA at hi ⊢
    simp only [List.size_toArray] at hi
    simp [Array.getD, hi]
  have hx := List.all_eq_true.1 rowsIn _ hm
  generalize caseA.getD i (0, 0, 0, 0, 0) = x at *
  simp only [rowIn, Bool.and_eq_true, decide_eq_true_eq, List.all_cons, List.all_nil, Bool.or_eq_true, Bool.and_true] at hx
  obtain ⟨d0, d1⟩ := hx
  have hd : (x.delta c > 1114111 ∧ x.2.1 < 1114110) ∨ (0 ≤ (x.1 : Int) + x.delta c ∧ (x.2.1 : Int) + x.delta c ≤ 1114111) := by
    match c, hc with
    | 0, _ => exact d0
    | 1, _ => exact d1
  unfold convertR
  split <;> omega

theorem sfold_low (r : Nat) (h : r < 128) : sfold r = asc.getD r 0 := by rw [sfold, if_pos h]
theorem sfold_orb (r lo : Nat) (h : ¬ r < 128) (hl : lo < 94) (he : (orb.getD lo (0, 0)).1 = r) : sfold r = (orb.getD lo (0, 0)).2 := by rw [sfold, if_neg h, find_at r lo hl he]
theorem sfold_none (r : Nat) (h : ¬ r < 128) (ho : orb.find? (fun x => x.1 == r) = none) (hl : lookupIdx caseA r (caseA.size + 1) 0 caseA.size = none) : sfold r = r := sfold_far r h ho hl
theorem sfold_row (r i : Nat) (h : ¬ r < 128) (ho : orb.find? (fun x => x.1 == r) = none) (hl : lookupIdx caseA r (caseA.size + 1) 0 caseA.size = some i) :
    sfold r = if convertR 1 r (caseA.getD i (0, 0, 0, 0, 0)) ≠ r then (convertR 1 r (caseA.getD i (0, 0, 0, 0, 0))).toNat else (convertR 0 r (caseA.getD i (0, 0, 0, 0, 0))).toNat := by
  rw [sfold, if_neg h, ho]
  simp only
  rw [hl]
theorem toNat_in (x : Int) (h : x ≤ 1114111) : x.toNat ≤ 1114111 := by omega
theorem sfold_in (r : Nat) (hr : r ≤ 1114111) : sfold r ≤ 1114111 := by
  by_cases h : r < 128
  · rw [sfold_low r h]; have := asc_in r h; omega
  · cases ho : orb.find? (fun x => x.1 == r) with
    | some x =>
      rw [sfold, if_neg h, ho]
      have hm := List.mem_of_find?_eq_some ho
      have := List.all_eq_true.1 orb_small x hm
      simp at this
      show x.2 ≤ 1114111
      omega
    | none =>
      cases hl : lookupIdx caseA r (caseA.size + 1) 0 caseA.size with
      | none => rw [sfold_none r h ho hl]; exact hr
      | some i =>
        obtain ⟨hi, h1, h2⟩ := lookup_in caseA r _ _ _ i hl
        have c0 := conv_in i hi 0 (by omega) r h1 h2
        have c1 := conv_in i hi 1 (by omega) r h1 h2
        rw [sfold_row r i h ho hl]
        generalize caseA.getD i (0, 0, 0, 0, 0) = x at *
        split
        · exact toNat_in _ c1.2
        · exact toNat_in _ c0.2
end Go.Proofs.YtlndhdimamnnlaaGreatDoor

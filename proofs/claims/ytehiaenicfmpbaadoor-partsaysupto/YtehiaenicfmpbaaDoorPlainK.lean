/- Plain facts on parts: a part as a tree; what is put into the list of places; what is wrong with a part by itself. No program. -/
import Derived.Test.YtehiaenicfmpbaaDoorPlainP
import Derived.Test.YtehiaenicfmpbaaDoorPlainH
import Derived.Lib.Strings
namespace Go.Proofs.YtehiaenicfmpbaaDoor

/-- A part: texts, a number, bytes, the parts in it. -/
structure PT where
  ty : ByteArray
  cs : ByteArray
  id : ByteArray
  loc : ByteArray
  how : Int
  body : List UInt8
  kids : List PT

def pt0 : PT := ⟨⟨#[]⟩, ⟨#[]⟩, ⟨#[]⟩, ⟨#[]⟩, 0, [], []⟩
def PT.alone (p : PT) : PT := { p with kids := [] }

def multi : List UInt8 := [109, 117, 108, 116, 105, 112, 97, 114, 116, 47]
def typeS (s : List UInt8) : Bool := match cutB 47 s with
  | none => false
  | some x => tokenS x.1 && tokenS x.2 && !s.any (fun c => decide (65 ≤ c.toNat) && decide (c.toNat ≤ 90))
def manyS (s : List UInt8) : Bool := Lib.hasPrefix s multi
def wordC : UInt8 → Bool := inB 33 126 [34, 60, 62]
def wordS (s : List UInt8) : Bool := decide (s.length ≤ 120) && s.all wordC
def textsOk (p : PT) : Bool := typeS p.ty.data.toList && (p.cs.data.toList.isEmpty || tokenS p.cs.data.toList) && wordS p.id.data.toList && wordS p.loc.data.toList
def formedP (p : PT) : Bool :=
  if manyS p.ty.data.toList then !p.kids.isEmpty && p.body.isEmpty && decide (p.how = 0) && p.cs.data.toList.isEmpty
  else p.kids.isEmpty
def chkA (p : PT) : Nat :=
  if textsOk p = false then 1 else if p.how < 0 ∨ 2 < p.how then 3 else if 4000 < p.body.length then 2 else if formedP p = false then 4 else 0

/-- The list of places, a part and all in it put behind; none: too many, or too deep. -/
def put : Nat → List (PT × Int) → PT → Nat → Int → Option (List (PT × Int))
  | 0, _, _, _, _ => none
  | f + 1, l, p, depth, inn =>
    if l.length = 12 ∨ 3 < depth then none
    else p.kids.foldl (fun acc k => acc.bind fun m => put f m k (depth + 1) l.length) (some (l ++ [(p, inn)]))
def putAll (f : Nat) (depth : Nat) (inn : Int) (l : List (PT × Int)) (ks : List PT) : Option (List (PT × Int)) :=
  ks.foldl (fun acc k => acc.bind fun m => put f m k depth inn) (some l)
theorem foldl_none (f : Nat) (depth : Nat) (inn : Int) : ∀ ks : List PT, ks.foldl (fun acc k => acc.bind fun m => put f m k depth inn) none = none
  | [] => rfl
  | _ :: ks => by rw [List.foldl_cons]; exact foldl_none f depth inn ks
theorem putAll_nil (f depth : Nat) (inn : Int) (l : List (PT × Int)) : putAll f depth inn l [] = some l := rfl
theorem putAll_some (f depth : Nat) (inn : Int) (l m : List (PT × Int)) (k : PT) (ks : List PT) (h : put f l k depth inn = some m) : putAll f depth inn l (k :: ks) = putAll f depth inn m ks := by
  unfold putAll; rw [List.foldl_cons, Option.bind_some, h]
theorem putAll_none (f depth : Nat) (inn : Int) (l : List (PT × Int)) (k : PT) (ks : List PT) (h : put f l k depth inn = none) : putAll f depth inn l (k :: ks) = none := by
  unfold putAll; rw [List.foldl_cons, Option.bind_some, h, foldl_none]
theorem put_stop (f : Nat) (l : List (PT × Int)) (p : PT) (depth : Nat) (inn : Int) (h : l.length = 12 ∨ 3 < depth) : put (f + 1) l p depth inn = none := by rw [put, if_pos h]
theorem put_go (f : Nat) (l : List (PT × Int)) (p : PT) (depth : Nat) (inn : Int) (h : ¬ (l.length = 12 ∨ 3 < depth)) : put (f + 1) l p depth inn = putAll f (depth + 1) l.length (l ++ [(p, inn)]) p.kids := by rw [put, if_neg h]; rfl

theorem putAll_length (f : Nat) (ih : ∀ l m p depth inn, l.length ≤ 12 → put f l p depth inn = some m → l.length ≤ m.length ∧ m.length ≤ 12) (depth : Nat) (inn : Int) : ∀ (ks : List PT) (l m : List (PT × Int)), l.length ≤ 12 → putAll f depth inn l ks = some m → l.length ≤ m.length ∧ m.length ≤ 12
  | [], l, m, hl, h => by rw [putAll_nil] at h; cases h; exact ⟨Nat.le_refl _, hl⟩
  | k :: ks, l, m, hl, h => by
    cases hk : put f l k depth inn with
    | none => rw [putAll_none f depth inn l k ks hk] at h; cases h
    | some n =>
      rw [putAll_some f depth inn l n k ks hk] at h
      have h1 := ih l n k depth inn hl hk
      have h2 := putAll_length f ih depth inn ks n m h1.2 h
      omega
theorem put_length : ∀ (f : Nat) (l m : List (PT × Int)) (p : PT) (depth : Nat) (inn : Int), l.length ≤ 12 → put f l p depth inn = some m → l.length ≤ m.length ∧ m.length ≤ 12
  | 0, _, _, _, _, _, _, h => by rw [put] at h; cases h
  | f + 1, l, m, p, depth, inn, hl, h => by
    by_cases hs : l.length = 12 ∨ 3 < depth
    · rw [put_stop f l p depth inn hs] at h; cases h
    · rw [put_go f l p depth inn hs] at h
      have := putAll_length f (put_length f) (depth + 1) l.length p.kids (l ++ [(p, inn)]) m (by rw [List.length_append]; simp; omega) h
      rw [List.length_append] at this
      omega

/-- The first thing that is wrong. -/
def firstBad : List (PT × Int) → Nat
  | [] => 0
  | x :: l => if chkA x.1 = 0 then firstBad l else chkA x.1
def placesP (p : PT) : Nat × List (PT × Int) := match put 4 [] p 1 (-1) with
  | none => (2, [])
  | some l => if firstBad l = 0 then (0, l) else (firstBad l, [])
end Go.Proofs.YtehiaenicfmpbaaDoor

/- Plain functions on lists of bytes: addresses: how they are checked, printed, parsed, and where one leads to from another. No program. -/
import Derived.Test.YtgnlebbifcmpjaaGreatDoorXbundlegoals14
import Derived.Test.YtgnlebbifcmpjaaGreatDoorXbundlegoals2
import Derived.Lib.Strings
namespace Go.Proofs.YtgnlebbifcmpjaaGreatDoor

/-- An address: its texts, and which of them it has. -/
structure UL where
  sch : List UInt8
  hh : Bool
  hst : List UInt8
  pth : List UInt8
  hq : Bool
  qry : List UInt8
  hf : Bool
  frg : List UInt8

def noUL : UL := ⟨[], false, [], [], false, [], false, []⟩
theorem UL.ext' {a b : UL} (h1 : a.sch = b.sch) (h2 : a.hh = b.hh) (h3 : a.hst = b.hst) (h4 : a.pth = b.pth) (h5 : a.hq = b.hq) (h6 : a.qry = b.qry) (h7 : a.hf = b.hf) (h8 : a.frg = b.frg) : a = b := by
  cases a; cases b; simp at *; exact ⟨h1, h2, h3, h4, h5, h6, h7, h8⟩

def foreignL : List UInt8 := [34, 60, 62, 92, 94, 96, 123, 124, 125]
def hostN : List UInt8 := foreignL ++ [47, 63, 35]
def pathN : List UInt8 := foreignL ++ [63, 35]
def fragN : List UInt8 := foreignL ++ [35]
def isUpB (c : UInt8) : Bool := decide (65 ≤ c.toNat) && decide (c.toNat ≤ 90)
def isLowB (c : UInt8) : Bool := decide (97 ≤ c.toNat) && decide (c.toNat ≤ 122)
def schB (c : UInt8) : Bool := isLowB c || (decide (48 ≤ c.toNat) && decide (c.toNat ≤ 57)) || decide (c = 43) || decide (c = 45) || decide (c = 46)
def lowU (c : UInt8) : UInt8 := if isUpB c = true then c + 32 else c
def smallU (l : List UInt8) : List UInt8 := l.map lowU
/-- A scheme that is told. -/
def schemeS (l : List UInt8) : Bool := (match l with | [] => false | c :: _ => isLowB c) && l.all schB
/-- At the `:` that stands ahead of any other one, and of any `/`. -/
def cutC : List UInt8 → Option (List UInt8 × List UInt8)
  | [] => none
  | c :: r => if c = 58 then some ([], r) else if c = 47 then none else (cutC r).map fun x => (c :: x.1, x.2)
def preS (l : List UInt8) : Bool := l.head? == some 47
def preSS : List UInt8 → Bool
  | a :: b :: _ => (a == 47) && (b == 47)
  | _ => false

def wrtU (u : UL) : Bool :=
  (u.sch.isEmpty || schemeS u.sch) && betw 33 126 hostN u.hst && betw 33 126 pathN u.pth && betw 33 126 fragN u.qry && betw 33 126 fragN u.frg && u.hst.all fun c => !isUpB c
def likeU (u : UL) : Bool := !u.hh && preSS u.pth
def frmU (u : UL) : Bool :=
  if (!u.hh && !u.hst.isEmpty) || (!u.hq && !u.qry.isEmpty) || (!u.hf && !u.frg.isEmpty) then false
  else if u.hh then u.pth.isEmpty || preS u.pth
  else if likeU u then false else !u.sch.isEmpty || (cutC u.pth).isNone
def opt (b : Bool) (l : List UInt8) : List UInt8 := if b then l else []
def textU (u : UL) : List UInt8 := opt (!u.sch.isEmpty) (u.sch ++ [58]) ++ (opt u.hh ([47, 47] ++ u.hst) ++ (u.pth ++ (opt u.hq (63 :: u.qry) ++ opt u.hf (35 :: u.frg))))
def longU (u : UL) : Bool := decide (120 < u.sch.length) || decide (120 < u.hst.length) || decide (120 < u.pth.length) || decide (120 < u.qry.length) || decide (120 < u.frg.length)
/-- What is wrong with an address: 0, or the error's number. -/
def checkU (u : UL) : Nat := if longU u then 2 else if wrtU u = false then 1 else if frmU u = false then 4 else if 120 < (textU u).length then 2 else 0

def cutO (d : UInt8) (l : List UInt8) : List UInt8 × List UInt8 × Bool := match cutB d l with | none => (l, [], false) | some x => (x.1, x.2, true)
/-- The host of what begins with two strokes, and the rest. -/
def cutH (l : List UInt8) : List UInt8 × List UInt8 := match cutB 47 l with | none => (l, []) | some x => (x.1, 47 :: x.2)
def hostU (sch l : List UInt8) (hq : Bool) (q : List UInt8) (hf : Bool) (f : List UInt8) : UL :=
  if preSS l then ⟨sch, true, smallU (cutH (l.drop 2)).1, (cutH (l.drop 2)).2, hq, q, hf, f⟩ else ⟨sch, false, [], l, hq, q, hf, f⟩
def checkedU (u : UL) : UL × Nat := if checkU u = 0 then (u, 0) else (noUL, checkU u)
def parseA (l : List UInt8) (hq : Bool) (q : List UInt8) (hf : Bool) (f : List UInt8) : UL × Nat :=
  match cutC l with
  | none => checkedU (hostU [] l hq q hf f)
  | some x => if schemeS (smallU x.1) = false then (noUL, 1) else checkedU (hostU (smallU x.1) x.2 hq q hf f)
/-- The address of which s is the text. -/
def parseU (s : List UInt8) : UL × Nat :=
  if 120 < s.length then (noUL, 2)
  else parseA (cutO 63 (cutO 35 s).1).1 (cutO 63 (cutO 35 s).1).2.2 (cutO 63 (cutO 35 s).1).2.1 (cutO 35 s).2.2 (cutO 35 s).2.1
def printU (u : UL) : List UInt8 × Nat := if checkU u = 0 then (textU u, 0) else ([], checkU u)

/-- The parts between strokes: the first one, and the others. -/
def splitP : List UInt8 → List UInt8 × List (List UInt8)
  | [] => ([], [])
  | c :: r => if c = 47 then ([], (splitP r).1 :: (splitP r).2) else (c :: (splitP r).1, (splitP r).2)
def partsP (l : List UInt8) : List (List UInt8) := (splitP l).1 :: (splitP l).2
def joinP : List (List UInt8) → List UInt8
  | [] => []
  | a :: t => joinG [47] a t
def isDot (s : List UInt8) : Bool := (s == [46]) || (s == [46, 46])
def backP (s : List UInt8) (left : List (List UInt8)) : List (List UInt8) := if (s == [46, 46]) && decide (1 < left.length) then left.dropLast else left
def dotsGo : List (List UInt8) → List (List UInt8) → List (List UInt8)
  | [], left => left
  | s :: r, left => if isDot s then dotsGo r (if r.isEmpty then backP s left ++ [[]] else backP s left) else dotsGo r (left ++ [s])
def undotU (p : List UInt8) : List UInt8 := joinP (dotsGo (partsP p) [])

/-- Up to the last stroke. -/
def dirP (l : List UInt8) : List UInt8 := (l.reverse.dropWhile (fun c => !(c == 47))).reverse
def compU (b u : UL) : UL :=
  if u.hh then { u with sch := b.sch }
  else if u.pth.isEmpty then (if u.hq then { u with sch := b.sch, hh := b.hh, hst := b.hst, pth := b.pth } else { u with sch := b.sch, hh := b.hh, hst := b.hst, pth := b.pth, hq := b.hq, qry := b.qry })
  else if preS u.pth then { u with sch := b.sch, hh := b.hh, hst := b.hst }
  else if b.hh && b.pth.isEmpty then { u with sch := b.sch, hh := b.hh, hst := b.hst, pth := 47 :: u.pth }
  else { u with sch := b.sch, hh := b.hh, hst := b.hst, pth := dirP b.pth ++ u.pth }
def undU (u : UL) : UL := if u.hh || preS u.pth then { u with pth := undotU u.pth } else u
def fullU (b u : UL) : UL := if u.sch.isEmpty then compU b u else u
def endU (u : UL) : UL × Nat := if likeU u then (noUL, 4) else checkedU u
/-- Where u, found at b, leads to. -/
def leadU (b u : UL) : UL × Nat :=
  if checkU b ≠ 0 then (noUL, checkU b) else if checkU u ≠ 0 then (noUL, checkU u) else if b.sch.isEmpty then (noUL, 4) else endU (undU (fullU b u))

/-! Parts, joined and parted. -/
theorem splitP_free : ∀ l : List UInt8, ∀ x ∈ partsP l, ∀ c ∈ x, c ≠ 47
  | [] => by simp [partsP, splitP]
  | c :: r => by
    have ih := splitP_free r
    intro x hx
    unfold partsP splitP at hx
    split at hx
    · simp only [List.mem_cons] at hx
      rcases hx with rfl | hx
      · simp
      · exact ih x (by simp [partsP]; exact hx)
    · rename_i hc
      simp only [List.mem_cons] at hx
      rcases hx with rfl | hx
      · intro d hd
        rcases List.mem_cons.1 hd with rfl | hd
        · exact hc
        · exact ih _ (by simp [partsP]) d hd
      · exact ih x (by simp [partsP]; exact .inr hx)
theorem joinG_cons (s : List UInt8) (c : UInt8) (a : List UInt8) (t : List (List UInt8)) : joinG s (c :: a) t = c :: joinG s a t := by cases t <;> simp [joinG]
theorem join_split : ∀ l : List UInt8, joinG [47] (splitP l).1 (splitP l).2 = l
  | [] => rfl
  | c :: r => by
    have ih := join_split r
    unfold splitP
    split
    · rename_i hc; subst hc; simp only [joinG]; rw [ih]; rfl
    · simp only; rw [joinG_cons, ih]
theorem joinP_parts (l : List UInt8) : joinP (partsP l) = l := join_split l
theorem splitP_join : ∀ (t : List (List UInt8)) (a : List UInt8), (∀ x ∈ a :: t, ∀ c ∈ x, c ≠ 47) → splitP (joinG [47] a t) = (a, t)
  | [], a, h => by
    induction a with
    | nil => rfl
    | cons c a ih =>
      rw [joinG_cons, splitP, if_neg (h (c :: a) (by simp) c (by simp)), ih (fun x hx d hd => by simp at hx; subst hx; exact h (c :: x) (by simp) d (by simp [hd]))]
  | b :: t, a, h => by
    have ih := splitP_join t b (fun x hx => h x (by simp at hx ⊢; exact .inr hx))
    induction a with
    | nil => simp only [joinG, List.nil_append, List.cons_append]; rw [splitP, if_pos rfl, ih]
    | cons c a iha =>
      rw [joinG_cons, splitP, if_neg (h (c :: a) (by simp) c (by simp)), iha (fun x hx d hd => by
        rcases List.mem_cons.1 hx with rfl | hx
        · exact h (c :: x) (by simp) d (by simp [hd])
        · exact h x (List.mem_cons_of_mem _ hx) d hd)]
theorem parts_join (xs : List (List UInt8)) (hne : xs ≠ []) (h : ∀ x ∈ xs, ∀ c ∈ x, c ≠ 47) : partsP (joinP xs) = xs := by
  cases xs with
  | nil => exact absurd rfl hne
  | cons a t => unfold partsP joinP; rw [splitP_join t a h]
/-- The library's split at a stroke. -/
theorem split_parts (l : List UInt8) : Lib.splitK [47] 0 (Lib.count l [47]) l = partsP l := by
  have h := split_join 47 [] (splitP l).2 (splitP l).1 (splitP_free l)
  rw [join_split] at h
  exact h

theorem backP_sub (s : List UInt8) (left : List (List UInt8)) : ∀ x ∈ backP s left, x ∈ left := by
  intro x hx
  unfold backP at hx
  split at hx
  · exact List.dropLast_subset left hx
  · exact hx
theorem backP_ne (s : List UInt8) (left : List (List UInt8)) (h : left ≠ []) : backP s left ≠ [] := by
  unfold backP
  split
  · rename_i h2
    simp at h2
    intro e
    have := congrArg List.length e
    simp at this
    omega
  · exact h
/-- No dots are left. -/
theorem dotsGo_free : ∀ (ps left : List (List UInt8)), (∀ x ∈ left, isDot x = false) → ∀ x ∈ dotsGo ps left, isDot x = false
  | [], left, h => by simpa [dotsGo] using h
  | s :: r, left, h => by
    rw [dotsGo]
    split
    · refine dotsGo_free r _ ?_
      intro x hx
      split at hx
      · rcases List.mem_append.1 hx with hx | hx
        · exact h x (backP_sub s left x hx)
        · simp at hx; subst hx; rfl
      · exact h x (backP_sub s left x hx)
    · rename_i hs
      refine dotsGo_free r _ ?_
      intro x hx
      rcases List.mem_append.1 hx with hx | hx
      · exact h x hx
      · simp at hx; subst hx; simpa using hs
theorem dotsGo_mem : ∀ (ps left : List (List UInt8)) (x : List UInt8), x ∈ dotsGo ps left → x ∈ left ∨ x ∈ ps ∨ x = []
  | [], left, x, h => .inl (by simpa [dotsGo] using h)
  | s :: r, left, x, h => by
    rw [dotsGo] at h
    split at h
    · rcases dotsGo_mem r _ x h with h | h | h
      · split at h
        · rcases List.mem_append.1 h with h | h
          · exact .inl (backP_sub s left x h)
          · simp at h; exact .inr (.inr h)
        · exact .inl (backP_sub s left x h)
      · exact .inr (.inl (by simp [h]))
      · exact .inr (.inr h)
    · rcases dotsGo_mem r _ x h with h | h | h
      · rcases List.mem_append.1 h with h | h
        · exact .inl h
        · simp at h; exact .inr (.inl (by simp [h]))
      · exact .inr (.inl (by simp [h]))
      · exact .inr (.inr h)
theorem dotsGo_ne : ∀ (ps left : List (List UInt8)), left ≠ [] → dotsGo ps left ≠ []
  | [], left, h => by simpa [dotsGo] using h
  | s :: r, left, h => by
    rw [dotsGo]
    split
    · refine dotsGo_ne r _ ?_
      split
      · simp
      · exact backP_ne s left h
    · exact dotsGo_ne r _ (by simp)
theorem dotsGo_none : ∀ (ps left : List (List UInt8)), (∀ x ∈ ps, isDot x = false) → dotsGo ps left = left ++ ps
  | [], left, _ => by simp [dotsGo]
  | s :: r, left, h => by
    rw [dotsGo, if_neg (by rw [h s (by simp)]; simp), dotsGo_none r _ (fun x hx => h x (by simp [hx]))]
    simp
/-- What begins with a stroke, or is empty. -/
theorem dotsGo_parts (p : List UInt8) (h : p = [] ∨ preS p = true) : dotsGo (partsP p) [] ≠ [] := by
  rcases h with rfl | h
  · simp [partsP, splitP, dotsGo, isDot]
  · cases p with
    | nil => cases h
    | cons c p =>
      have hc : c = 47 := by simpa [preS] using h
      subst hc
      unfold partsP splitP
      rw [if_pos rfl, dotsGo, if_neg (show ¬ isDot [] = true by decide)]
      exact dotsGo_ne _ _ (by simp)
theorem undot_parts (p : List UInt8) (h : p = [] ∨ preS p = true) : partsP (undotU p) = dotsGo (partsP p) [] := by
  refine parts_join _ (dotsGo_parts p h) ?_
  intro x hx
  rcases dotsGo_mem _ _ x hx with h | h | h
  · cases h
  · exact splitP_free p x h
  · subst h; simp
theorem undot_free (p : List UInt8) (h : p = [] ∨ preS p = true) : ∀ x ∈ partsP (undotU p), isDot x = false := by
  rw [undot_parts p h]
  exact dotsGo_free _ _ (by simp)
theorem undot_self (p : List UInt8) (h : ∀ x ∈ partsP p, isDot x = false) : undotU p = p := by
  unfold undotU
  rw [dotsGo_none _ _ h, List.nil_append, joinP_parts]
theorem undot_undot (p : List UInt8) (h : p = [] ∨ preS p = true) : undotU (undotU p) = undotU p := undot_self _ (undot_free p h)
end Go.Proofs.YtgnlebbifcmpjaaGreatDoor

/- Plain facts on parts: a part as a tree; what is put into the list of places; what is wrong with a part by itself. No program. -/
namespace Go.Proofs.YtgnlebbifcmpjaaGreatDoor

/-- A part: texts, a number, bytes, the parts in it. -/
structure PT where
  ty : ByteArray
  cs : ByteArray
  id : ByteArray
  loc : ByteArray
  how : Int
  body : List UInt8
  kids : List PT

def pt0 : PT := ⟨⟨#[]⟩, ⟨#[]⟩, ⟨#[]⟩, ⟨#[]⟩, 0, [], []⟩
def PT.alone (p : PT) : PT := { p with kids := [] }

def multi : List UInt8 := [109, 117, 108, 116, 105, 112, 97, 114, 116, 47]
def typeS (s : List UInt8) : Bool := match cutB 47 s with
  | none => false
  | some x => tokenS x.1 && tokenS x.2 && !s.any (fun c => decide (65 ≤ c.toNat) && decide (c.toNat ≤ 90))
def manyS (s : List UInt8) : Bool := Lib.hasPrefix s multi
def wordC : UInt8 → Bool := inB 33 126 [34, 60, 62]
def wordS (s : List UInt8) : Bool := decide (s.length ≤ 120) && s.all wordC
def textsOk (p : PT) : Bool := typeS p.ty.data.toList && (p.cs.data.toList.isEmpty || tokenS p.cs.data.toList) && wordS p.id.data.toList && wordS p.loc.data.toList
def formedP (p : PT) : Bool :=
  if manyS p.ty.data.toList then !p.kids.isEmpty && p.body.isEmpty && decide (p.how = 0) && p.cs.data.toList.isEmpty
  else p.kids.isEmpty
def chkA (p : PT) : Nat :=
  if textsOk p = false then 1 else if p.how < 0 ∨ 2 < p.how then 3 else if 4000 < p.body.length then 2 else if formedP p = false then 4 else 0

/-- The list of places, a part and all in it put behind; none: too many, or too deep. -/
def put : Nat → List (PT × Int) → PT → Nat → Int → Option (List (PT × Int))
  | 0, _, _, _, _ => none
  | f + 1, l, p, depth, inn =>
    if l.length = 12 ∨ 3 < depth then none
    else p.kids.foldl (fun acc k => acc.bind fun m => put f m k (depth + 1) l.length) (some (l ++ [(p, inn)]))
def putAll (f : Nat) (depth : Nat) (inn : Int) (l : List (PT × Int)) (ks : List PT) : Option (List (PT × Int)) :=
  ks.foldl (fun acc k => acc.bind fun m => put f m k depth inn) (some l)
theorem foldl_none (f : Nat) (depth : Nat) (inn : Int) : ∀ ks : List PT, ks.foldl (fun acc k => acc.bind fun m => put f m k depth inn) none = none
  | [] => rfl
  | _ :: ks => by rw [List.foldl_cons]; exact foldl_none f depth inn ks
theorem putAll_nil (f depth : Nat) (inn : Int) (l : List (PT × Int)) : putAll f depth inn l [] = some l := rfl
theorem putAll_some (f depth : Nat) (inn : Int) (l m : List (PT × Int)) (k : PT) (ks : List PT) (h : put f l k depth inn = some m) : putAll f depth inn l (k :: ks) = putAll f depth inn m ks := by
  unfold putAll; rw [List.foldl_cons, Option.bind_some, h]
theorem putAll_none (f depth : Nat) (inn : Int) (l : List (PT × Int)) (k : PT) (ks : List PT) (h : put f l k depth inn = none) : putAll f depth inn l (k :: ks) = none := by
  unfold putAll; rw [List.foldl_cons, Option.bind_some, h, foldl_none]
theorem put_stop (f : Nat) (l : List (PT × Int)) (p : PT) (depth : Nat) (inn : Int) (h : l.length = 12 ∨ 3 < depth) : put (f + 1) l p depth inn = none := by rw [put, if_pos h]
theorem put_go (f : Nat) (l : List (PT × Int)) (p : PT) (depth : Nat) (inn : Int) (h : ¬ (l.length = 12 ∨ 3 < depth)) : put (f + 1) l p depth inn = putAll f (depth + 1) l.length (l ++ [(p, inn)]) p.kids := by rw [put, if_neg h]; rfl

theorem putAll_length (f : Nat) (ih : ∀ l m p depth inn, l.length ≤ 12 → put f l p depth inn = some m → l.length ≤ m.length ∧ m.length ≤ 12) (depth : Nat) (inn : Int) : ∀ (ks : List PT) (l m : List (PT × Int)), l.length ≤ 12 → putAll f depth inn l ks = some m → l.length ≤ m.length ∧ m.length ≤ 12
  | [], l, m, hl, h => by rw [putAll_nil] at h; cases h; exact ⟨Nat.le_refl _, hl⟩
  | k :: ks, l, m, hl, h => by
    cases hk : put f l k depth inn with
    | none => rw [putAll_none f depth inn l k ks hk] at h; cases h
    | some n =>
      rw [putAll_some f depth inn l n k ks hk] at h
      have h1 := ih l n k depth inn hl hk
      have h2 := putAll_length f ih depth inn ks n m h1.2 h
      omega
theorem put_length : ∀ (f : Nat) (l m : List (PT × Int)) (p : PT) (depth : Nat) (inn : Int), l.length ≤ 12 → put f l p depth inn = some m → l.length ≤ m.length ∧ m.length ≤ 12
  | 0, _, _, _, _, _, _, h => by rw [put] at h; cases h
  | f + 1, l, m, p, depth, inn, hl, h => by
    by_cases hs : l.length = 12 ∨ 3 < depth
    · rw [put_stop f l p depth inn hs] at h; cases h
    · rw [put_go f l p depth inn hs] at h
      have := putAll_length f (put_length f) (depth + 1) l.length p.kids (l ++ [(p, inn)]) m (by rw [List.length_append]; simp; omega) h
      rw [List.length_append] at this
      omega

/-- The first thing that is wrong. -/
def firstBad : List (PT × Int) → Nat
  | [] => 0
  | x :: l => if chkA x.1 = 0 then firstBad l else chkA x.1
def placesP (p : PT) : Nat × List (PT × Int) := match put 4 [] p 1 (-1) with
  | none => (2, [])
  | some l => if firstBad l = 0 then (0, l) else (firstBad l, [])
end Go.Proofs.YtgnlebbifcmpjaaGreatDoor

/- Plain functions: where the parts of a bundle are, and where the links of its pages lead. No program. -/
namespace Go.Proofs.YtgnlebbifcmpjaaGreatDoor

/-- Where an address, found at another one, leads to; nothing: it can't be told. -/
def ledU (a b : List UInt8) : List UInt8 :=
  if (parseU a).2 ≠ 0 then [] else if (parseU b).2 ≠ 0 then [] else if (leadU (parseU a).1 (parseU b).1).2 ≠ 0 then [] else (printU (leadU (parseU a).1 (parseU b).1).1).1
def nowS : List UInt8 := [116, 104, 105, 115, 109, 101, 115, 115, 97, 103, 101, 58, 47]
def htmlS : List UInt8 := [116, 101, 120, 116, 47, 104, 116, 109, 108]
def cidS : List UInt8 := [99, 105, 100, 58]
/-- The address that what is in part i is found at. -/
def fromW (wh : List (List UInt8)) (i : Int) : List UInt8 := if i < 0 then nowS else if wh.getD i.toNat [] = [] then nowS else wh.getD i.toNat []
def stepW (wh : List (List UInt8)) (x : PT × Int) : List UInt8 := if x.1.loc.data.toList = [] then fromW wh x.2 else ledU (fromW wh x.2) x.1.loc.data.toList
/-- Where each part is. -/
def whereP (l : List (PT × Int)) : List (List UInt8) := l.foldl (fun wh x => wh ++ [stepW wh x]) []
def noFr (s : List UInt8) : List UInt8 := match cutB 35 s with | none => s | some x => x.1
/-- The first number from k on of a part that isn't Many, of which ok holds. -/
def firstP (ok : Nat → PT → Bool) : Nat → List PT → Int
  | _, [] => -1
  | k, p :: l => if manyS p.ty.data.toList = false ∧ ok k p = true then (k : Int) else firstP ok (k + 1) l
def okID (t : List UInt8) (_ : Nat) (p : PT) : Bool := !p.id.data.toList.isEmpty && (p.id.data.toList == t)
def okLoc (wh : List (List UInt8)) (t : List UInt8) (k : Nat) (p : PT) : Bool := !p.loc.data.toList.isEmpty && (noFr (wh.getD k []) == t)
/-- The part that an address leads to. -/
def findW (l : List PT) (wh : List (List UInt8)) (tw : List UInt8) : Int :=
  if tw = [] then -1 else if Lib.hasPrefix (noFr tw) cidS = true then firstP (okID ((noFr tw).drop 4)) 0 l else firstP (okLoc wh (noFr tw)) 0 l
/-- A goal: the part, the link's two places and its text, where it leads, to which part. -/
structure GL where
  part : Int
  fr : Int
  tt : Int
  text : List UInt8
  led : List UInt8
  find : Int
def goalOf (l : List PT) (wh : List (List UInt8)) (i n : Nat) (x : LK) : GL :=
  ⟨i, ((n - x.1 : Nat) : Int), ((n - x.1 + x.2.length : Nat) : Int), unamp x.2, ledU (fromW wh i) (unamp x.2), findW l wh (ledU (fromW wh i) (unamp x.2))⟩
/-- The goals of the parts from k on; none: a page has too many links. -/
def goalsGo (low : List UInt8 → List UInt8) (l : List PT) (wh : List (List UInt8)) : Nat → List PT → List GL → Option (List GL)
  | _, [], acc => some acc
  | k, p :: r, acc => if p.ty.data.toList = htmlS then (match findP low p.body with | none => none | some ls => goalsGo low l wh (k + 1) r (acc ++ ls.map (goalOf l wh k p.body.length))) else goalsGo low l wh (k + 1) r acc

theorem whereP_snoc (l : List (PT × Int)) (x : PT × Int) : whereP (l ++ [x]) = whereP l ++ [stepW (whereP l) x] := by simp [whereP]
theorem whereP_length (l : List (PT × Int)) : (whereP l).length = l.length := by
  have : ∀ (l : List (PT × Int)) (acc : List (List UInt8)), (l.foldl (fun wh x => wh ++ [stepW wh x]) acc).length = acc.length + l.length := by
    intro l
    induction l with
    | nil => intro acc; simp
    | cons x l ih => intro acc; rw [List.foldl_cons, ih]; simp; omega
  have h := this l []
  simpa [whereP] using h
theorem noFr_len (s : List UInt8) : (noFr s).length ≤ s.length := by
  unfold noFr
  cases h : cutB 35 s with
  | none => exact Nat.le_refl _
  | some x =>
    obtain ⟨a, b⟩ := x
    have := congrArg List.length (cutB_some 35 s a b h).1
    simp at this ⊢
    omega
theorem printU_len (u : UL) : (printU u).1.length ≤ 120 := by
  unfold printU
  split
  · rename_i h
    unfold checkU at h
    split at h
    · cases h
    · split at h
      · cases h
      · split at h
        · cases h
        · split at h
          · cases h
          · simp only; omega
  · simp
theorem ledU_len (a b : List UInt8) : (ledU a b).length ≤ 120 := by
  unfold ledU
  split
  · simp
  · split
    · simp
    · split
      · simp
      · exact printU_len _
theorem nowS_len : nowS.length = 13 := rfl
theorem fromW_len (wh : List (List UInt8)) (h : ∀ x ∈ wh, x.length ≤ 120) (i : Int) : (fromW wh i).length ≤ 120 := by
  unfold fromW
  split
  · rw [nowS_len]; omega
  · split
    · rw [nowS_len]; omega
    · rw [List.getD_eq_getElem?_getD]
      cases hx : wh[i.toNat]? with
      | none => simp
      | some y => simpa using h y (List.mem_of_getElem? hx)
theorem stepW_len (wh : List (List UInt8)) (h : ∀ x ∈ wh, x.length ≤ 120) (x : PT × Int) : (stepW wh x).length ≤ 120 := by
  unfold stepW
  split
  · exact fromW_len wh h _
  · exact ledU_len _ _
theorem whereP_each (l : List (PT × Int)) : ∀ x ∈ whereP l, x.length ≤ 120 := by
  have : ∀ (l : List (PT × Int)) (acc : List (List UInt8)), (∀ x ∈ acc, x.length ≤ 120) → ∀ x ∈ l.foldl (fun wh x => wh ++ [stepW wh x]) acc, x.length ≤ 120 := by
    intro l
    induction l with
    | nil => intro acc h; exact h
    | cons y l ih =>
      intro acc h
      rw [List.foldl_cons]
      refine ih _ (fun x hx => ?_)
      rcases List.mem_append.1 hx with hx | hx
      · exact h x hx
      · simp at hx; rw [hx]; exact stepW_len acc h y
  exact this l [] (by simp)
end Go.Proofs.YtgnlebbifcmpjaaGreatDoor


import Derived.Lib.Strings
import Derived.Lib.Bytealg
import Derived.Lib.Replace
namespace Go.Proofs.YtbbfcbodhmeanaaGreatDoor
def specials : List UInt8 := [40, 41, 60, 62, 64, 44, 59, 58, 92, 34, 47, 91, 93, 63, 61]
def inB (lo hi : Nat) (but : List UInt8) (c : UInt8) : Bool := decide (lo ≤ c.toNat) && decide (c.toNat ≤ hi) && !but.contains c
def betw (lo hi : Nat) (but l : List UInt8) : Bool := l.all (inB lo hi but)
def tokenS (l : List UInt8) : Bool := decide (1 ≤ l.length) && decide (l.length ≤ 30) && betw 33 126 specials l
theorem indexByte_mem (l : List UInt8) (c : UInt8) : decide (0 ≤ Lib.indexByte l c) = l.contains c := by
  induction l with
  | nil => rfl
  | cons b l ih =>
    rw [Lib.indexByte]
    by_cases h : b = c
    · subst h; simp
    · have h2 : (c == b) = false := by rw [beq_eq_false_iff_ne]; exact fun e => h e.symm
      rw [if_neg (by simpa using h), List.contains_cons, h2, Bool.false_or, ← ih]
      by_cases h1 : Lib.indexByte l c = -1
      · rw [h1]; rfl
      · rw [if_neg (by simpa using h1)]
        have : -1 ≤ Lib.indexByte l c := by
          clear ih h h2 h1
          induction l with
          | nil => simp [Lib.indexByte]
          | cons b l ih => rw [Lib.indexByte]; split; · omega
                           · split; · omega
                             · omega
        by_cases h0 : 0 ≤ Lib.indexByte l c
        · simp [h0]; omega
        · omega
end Go.Proofs.YtbbfcbodhmeanaaGreatDoor



namespace Go.Proofs.YtbbfcbodhmeanaaGreatDoor
end Go.Proofs.YtbbfcbodhmeanaaGreatDoor



namespace Go.Proofs.YtbbfcbodhmeanaaGreatDoor
def cutB (d : UInt8) : List UInt8 → Option (List UInt8 × List UInt8)
 | [] => none
 | c :: r => if c = d then some ([], r) else (cutB d r).map fun x => (c :: x.1, x.2)
theorem cutB_some (d : UInt8) : ∀ (l a b : List UInt8), cutB d l = some (a, b) → l = a ++ d :: b ∧ ∀ c ∈ a, c ≠ d
 | [], _, _, h => by cases h
 | c :: r, a, b, h => by
  rw [cutB] at h
  split at h
  ·rename_i e; subst e; cases h; exact ⟨rfl, by simp⟩
  ·rename_i e
   cases hr : cutB d r with
   | none => rw [hr] at h; cases h
   | some x =>
    obtain ⟨x1, x2⟩ := x
    rw [hr] at h
    cases h
    obtain ⟨h1, h2⟩ := cutB_some d r x1 x2 hr
    refine ⟨by rw [h1]; rfl, ?_⟩
    intro y hy
    rcases List.mem_cons.1 hy with rfl | hy
    ·exact e
    ·exact h2 y hy
end Go.Proofs.YtbbfcbodhmeanaaGreatDoor



namespace Go.Proofs.YtbbfcbodhmeanaaGreatDoor
theorem index_sep_none (d : UInt8) (s a : List UInt8) (h : ∀ c ∈ a, c ≠ d) : Lib.index a (d :: s) = -1 := by
 induction a with
 | nil => rfl
 | cons c a ih =>
  have hc : (d == c) = false := by simp; exact fun e => h c (by simp) e.symm
  have := ih (fun e he => h e (by simp [he]))
  simp [Lib.index, List.isPrefixOf, hc, this]
theorem prefix_self (s r : List UInt8) : s.isPrefixOf (s ++ r) = true := by
 rw [List.isPrefixOf_iff_prefix]; exact List.prefix_append s r
theorem index_sep (d : UInt8) (s a r : List UInt8) (h : ∀ c ∈ a, c ≠ d) : Lib.index (a ++ ((d :: s) ++ r)) (d :: s) = (a.length : Int) := by
 induction a with
 | nil =>
  have := prefix_self (d :: s) r
  rw [List.cons_append] at this
  rw [List.nil_append, List.cons_append, Lib.index, if_pos this]
  rfl
 | cons c a ih =>
  have hc : (d == c) = false := by simp; exact fun e => h c (by simp) e.symm
  have hi := ih (fun e he => h e (by simp [he]))
  rw [List.cons_append, Lib.index]
  have hp : (d :: s).isPrefixOf (c :: (a ++ ((d :: s) ++ r))) = false := by simp [List.isPrefixOf, hc]
  rw [hp, hi]
  simp only [Bool.false_eq_true, if_false]
  rw [if_neg (by simp)]
  simp
theorem drop_sep (s a r : List UInt8) : (a ++ (s ++ r)).drop (a.length + s.length) = r := by
 rw [show a.length + s.length = (a ++ s).length from by simp, ← List.append_assoc, List.drop_left]
theorem count_sep (d : UInt8) (s a r : List UInt8) (h : ∀ c ∈ a, c ≠ d) : Lib.count (a ++ ((d :: s) ++ r)) (d :: s) = Lib.count r (d :: s) + 1 := by
 rw [Lib.count_hit (by simp) (index_sep d s a r h), drop_sep, Nat.add_comm]
def joinG (s : List UInt8) : List UInt8 → List (List UInt8) → List UInt8
 | a, [] => a
 | a, b :: t => a ++ (s ++ joinG s b t)
theorem split_join (d : UInt8) (s : List UInt8) : ∀ (t : List (List UInt8)) (a : List UInt8), (∀ x ∈ a :: t, ∀ c ∈ x, c ≠ d) →
  Lib.splitK (d :: s) 0 (Lib.count (joinG (d :: s) a t) (d :: s)) (joinG (d :: s) a t) = a :: t := by
 intro t
 induction t with
 | nil => intro a h; rw [joinG, Lib.count_miss (index_sep_none d s a (h a (by simp)))]; rfl
 | cons b t ih =>
  intro a h
  have ha := h a (by simp)
  rw [joinG, count_sep d s a _ ha, Lib.splitK, index_sep d s a _ ha, if_neg (by simp), Int.toNat_natCast, drop_sep, ih b (fun x hx => h x (by simp at hx ⊢; right; exact hx)), Nat.add_zero, List.take_left]
end Go.Proofs.YtbbfcbodhmeanaaGreatDoor



namespace Go.Proofs.YtbbfcbodhmeanaaGreatDoor
structure UL where
 sch : List UInt8
 hh : Bool
 hst : List UInt8
 pth : List UInt8
 hq : Bool
 qry : List UInt8
 hf : Bool
 frg : List UInt8
def noUL : UL := ⟨[], false, [], [], false, [], false, []⟩
def foreignL : List UInt8 := [34, 60, 62, 92, 94, 96, 123, 124, 125]
def hostN : List UInt8 := foreignL ++ [47, 63, 35]
def pathN : List UInt8 := foreignL ++ [63, 35]
def fragN : List UInt8 := foreignL ++ [35]
def isUpB (c : UInt8) : Bool := decide (65 ≤ c.toNat) && decide (c.toNat ≤ 90)
def isLowB (c : UInt8) : Bool := decide (97 ≤ c.toNat) && decide (c.toNat ≤ 122)
def schB (c : UInt8) : Bool := isLowB c || (decide (48 ≤ c.toNat) && decide (c.toNat ≤ 57)) || decide (c = 43) || decide (c = 45) || decide (c = 46)
def lowU (c : UInt8) : UInt8 := if isUpB c = true then c + 32 else c
def smallU (l : List UInt8) : List UInt8 := l.map lowU
def schemeS (l : List UInt8) : Bool := (match l with | [] => false | c :: _ => isLowB c) && l.all schB
def cutC : List UInt8 → Option (List UInt8 × List UInt8)
 | [] => none
 | c :: r => if c = 58 then some ([], r) else if c = 47 then none else (cutC r).map fun x => (c :: x.1, x.2)
def preS (l : List UInt8) : Bool := l.head? == some 47
def preSS : List UInt8 → Bool
 | a :: b :: _ => (a == 47) && (b == 47)
 | _ => false
def wrtU (u : UL) : Bool :=
 (u.sch.isEmpty || schemeS u.sch) && betw 33 126 hostN u.hst && betw 33 126 pathN u.pth && betw 33 126 fragN u.qry && betw 33 126 fragN u.frg && u.hst.all fun c => !isUpB c
def likeU (u : UL) : Bool := !u.hh && preSS u.pth
def frmU (u : UL) : Bool :=
 if (!u.hh && !u.hst.isEmpty) || (!u.hq && !u.qry.isEmpty) || (!u.hf && !u.frg.isEmpty) then false
 else if u.hh then u.pth.isEmpty || preS u.pth
 else if likeU u then false else !u.sch.isEmpty || (cutC u.pth).isNone
def opt (b : Bool) (l : List UInt8) : List UInt8 := if b then l else []
def textU (u : UL) : List UInt8 := opt (!u.sch.isEmpty) (u.sch ++ [58]) ++ (opt u.hh ([47, 47] ++ u.hst) ++ (u.pth ++ (opt u.hq (63 :: u.qry) ++ opt u.hf (35 :: u.frg))))
def longU (u : UL) : Bool := decide (120 < u.sch.length) || decide (120 < u.hst.length) || decide (120 < u.pth.length) || decide (120 < u.qry.length) || decide (120 < u.frg.length)
def checkU (u : UL) : Nat := if longU u then 2 else if wrtU u = false then 1 else if frmU u = false then 4 else if 120 < (textU u).length then 2 else 0
def cutO (d : UInt8) (l : List UInt8) : List UInt8 × List UInt8 × Bool := match cutB d l with | none => (l, [], false) | some x => (x.1, x.2, true)
def cutH (l : List UInt8) : List UInt8 × List UInt8 := match cutB 47 l with | none => (l, []) | some x => (x.1, 47 :: x.2)
def hostU (sch l : List UInt8) (hq : Bool) (q : List UInt8) (hf : Bool) (f : List UInt8) : UL :=
 if preSS l then ⟨sch, true, smallU (cutH (l.drop 2)).1, (cutH (l.drop 2)).2, hq, q, hf, f⟩ else ⟨sch, false, [], l, hq, q, hf, f⟩
def checkedU (u : UL) : UL × Nat := if checkU u = 0 then (u, 0) else (noUL, checkU u)
def parseA (l : List UInt8) (hq : Bool) (q : List UInt8) (hf : Bool) (f : List UInt8) : UL × Nat :=
 match cutC l with
 | none => checkedU (hostU [] l hq q hf f)
 | some x => if schemeS (smallU x.1) = false then (noUL, 1) else checkedU (hostU (smallU x.1) x.2 hq q hf f)
def parseU (s : List UInt8) : UL × Nat :=
 if 120 < s.length then (noUL, 2)
 else parseA (cutO 63 (cutO 35 s).1).1 (cutO 63 (cutO 35 s).1).2.2 (cutO 63 (cutO 35 s).1).2.1 (cutO 35 s).2.2 (cutO 35 s).2.1
def printU (u : UL) : List UInt8 × Nat := if checkU u = 0 then (textU u, 0) else ([], checkU u)
def splitP : List UInt8 → List UInt8 × List (List UInt8)
 | [] => ([], [])
 | c :: r => if c = 47 then ([], (splitP r).1 :: (splitP r).2) else (c :: (splitP r).1, (splitP r).2)
def partsP (l : List UInt8) : List (List UInt8) := (splitP l).1 :: (splitP l).2
def joinP : List (List UInt8) → List UInt8
 | [] => []
 | a :: t => joinG [47] a t
def isDot (s : List UInt8) : Bool := (s == [46]) || (s == [46, 46])
def backP (s : List UInt8) (left : List (List UInt8)) : List (List UInt8) := if (s == [46, 46]) && decide (1 < left.length) then left.dropLast else left
def dotsGo : List (List UInt8) → List (List UInt8) → List (List UInt8)
 | [], left => left
 | s :: r, left => if isDot s then dotsGo r (if r.isEmpty then backP s left ++ [[]] else backP s left) else dotsGo r (left ++ [s])
def undotU (p : List UInt8) : List UInt8 := joinP (dotsGo (partsP p) [])
def dirP (l : List UInt8) : List UInt8 := (l.reverse.dropWhile (fun c => !(c == 47))).reverse
def compU (b u : UL) : UL :=
 if u.hh then { u with sch := b.sch }
 else if u.pth.isEmpty then (if u.hq then { u with sch := b.sch, hh := b.hh, hst := b.hst, pth := b.pth } else { u with sch := b.sch, hh := b.hh, hst := b.hst, pth := b.pth, hq := b.hq, qry := b.qry })
 else if preS u.pth then { u with sch := b.sch, hh := b.hh, hst := b.hst }
 else if b.hh && b.pth.isEmpty then { u with sch := b.sch, hh := b.hh, hst := b.hst, pth := 47 :: u.pth }
 else { u with sch := b.sch, hh := b.hh, hst := b.hst, pth := dirP b.pth ++ u.pth }
def undU (u : UL) : UL := if u.hh || preS u.pth then { u with pth := undotU u.pth } else u
def fullU (b u : UL) : UL := if u.sch.isEmpty then compU b u else u
def endU (u : UL) : UL × Nat := if likeU u then (noUL, 4) else checkedU u
def leadU (b u : UL) : UL × Nat :=
 if checkU b ≠ 0 then (noUL, checkU b) else if checkU u ≠ 0 then (noUL, checkU u) else if b.sch.isEmpty then (noUL, 4) else endU (undU (fullU b u))
theorem splitP_free : ∀ l : List UInt8, ∀ x ∈ partsP l, ∀ c ∈ x, c ≠ 47
 | [] => by simp [partsP, splitP]
 | c :: r => by
  have ih := splitP_free r
  intro x hx
  unfold partsP splitP at hx
  split at hx
  ·simp only [List.mem_cons] at hx
   rcases hx with rfl | hx
   ·simp
   ·exact ih x (by simp [partsP]; exact hx)
  ·rename_i hc
   simp only [List.mem_cons] at hx
   rcases hx with rfl | hx
   ·intro d hd
    rcases List.mem_cons.1 hd with rfl | hd
    ·exact hc
    ·exact ih _ (by simp [partsP]) d hd
   ·exact ih x (by simp [partsP]; exact .inr hx)
theorem joinG_cons (s : List UInt8) (c : UInt8) (a : List UInt8) (t : List (List UInt8)) : joinG s (c :: a) t = c :: joinG s a t := by cases t <;> simp [joinG]
theorem join_split : ∀ l : List UInt8, joinG [47] (splitP l).1 (splitP l).2 = l
 | [] => rfl
 | c :: r => by
  have ih := join_split r
  unfold splitP
  split
  ·rename_i hc; subst hc; simp only [joinG]; rw [ih]; rfl
  ·simp only; rw [joinG_cons, ih]
theorem joinP_parts (l : List UInt8) : joinP (partsP l) = l := join_split l
theorem split_parts (l : List UInt8) : Lib.splitK [47] 0 (Lib.count l [47]) l = partsP l := by
 have h := split_join 47 [] (splitP l).2 (splitP l).1 (splitP_free l)
 rw [join_split] at h
 exact h
end Go.Proofs.YtbbfcbodhmeanaaGreatDoor



namespace Go.Proofs.YtbbfcbodhmeanaaGreatDoor
def spB (c : UInt8) : Bool := [32, 9, 13, 10, 12].contains c
def letB (c : UInt8) : Bool := (decide (97 ≤ c.toNat) && decide (c.toNat ≤ 122)) || (decide (65 ≤ c.toNat) && decide (c.toNat ≤ 90))
def inName (c : UInt8) : Bool := !spB c && c != 47 && c != 62
def inGap (c : UInt8) : Bool := spB c || c == 47
def inAttr (c : UInt8) : Bool := !spB c && c != 47 && c != 62 && c != 61
def inBare (c : UInt8) : Bool := !spB c && c != 62
def notQ (q c : UInt8) : Bool := c != q
def hrefL : List UInt8 := [104, 114, 101, 102]
def srcL : List UInt8 := [115, 114, 99]
def qB (c : UInt8) : Bool := c == 34 || c == 39
abbrev LK := Nat × List UInt8
def valP : List UInt8 → List UInt8 × List UInt8 × List UInt8
 | [] => ([], [], [])
 | c :: t => if qB c = true then (t, t.takeWhile (notQ c), (t.dropWhile (notQ c)).drop 1) else (c :: t, (c :: t).takeWhile inBare, (c :: t).dropWhile inBare)
def behP : List UInt8 → Option LK × List UInt8
 | [] => (none, [])
 | c :: t => if c = 61 then (some ((valP (t.dropWhile spB)).1.length, (valP (t.dropWhile spB)).2.1), (valP (t.dropWhile spB)).2.2) else (none, c :: t)
def nameP (s : List UInt8) : List UInt8 := s.take 1 ++ (s.drop 1).takeWhile inAttr
def attrP (s : List UInt8) : Option LK × List UInt8 := behP (((s.drop 1).dropWhile inAttr).dropWhile spB)
def mineP (seen : List (List UInt8)) (nm : List UInt8) (v : Option LK) : List LK :=
 match v with
 | none => []
 | some x => if seen.contains nm = false ∧ (nm = hrefL ∨ nm = srcL) then [x] else []
def tagF (low : List UInt8 → List UInt8) : Nat → List (List UInt8) → List UInt8 → Option (List LK) × List UInt8
 | 0, _, _ => (none, [])
 | n + 1, seen, s => match s.dropWhile inGap with
  | [] => (none, [])
  | c :: t => if c = 62 then (some [], t) else
   ((tagF low n (low (nameP (c :: t)) :: seen) (attrP (c :: t)).2).1.map (mineP seen (low (nameP (c :: t))) (attrP (c :: t)).1 ++ ·), (tagF low n (low (nameP (c :: t)) :: seen) (attrP (c :: t)).2).2)
def behindL (m s : List UInt8) : List UInt8 := if Lib.index s m < 0 then [] else s.drop ((Lib.index s m).toNat + m.length)
def headL (s : List UInt8) : Bool := match s with
 | [] => false
 | c :: _ => letB c
def tagB (m s : List UInt8) : Bool := m.isPrefixOf s && headL (s.drop m.length)
def tagP (low : List UInt8 → List UInt8) (s : List UInt8) : Option (List LK) × List UInt8 := tagF low ((s.dropWhile inName).length + 1) [] (s.dropWhile inName)
def comL : List UInt8 := [60, 33, 45, 45]
def comE : List UInt8 := [45, 45, 62]
def pieceP (low : List UInt8 → List UInt8) (s : List UInt8) : List LK × List UInt8 :=
 if comL.isPrefixOf s = true then ([], behindL comE (s.drop 4))
 else if ([60, 33] : List UInt8).isPrefixOf s = true ∨ ([60, 63] : List UInt8).isPrefixOf s = true then ([], behindL [62] s)
 else if tagB [60] s = true then ((tagP low (s.drop 1)).1.getD [], (tagP low (s.drop 1)).2)
 else if tagB [60, 47] s = true then ([], (tagP low (s.drop 2)).2)
 else ([], s.drop 1)
def findF (low : List UInt8 → List UInt8) : Nat → List LK → List UInt8 → Option (List LK)
 | 0, acc, _ => some acc
 | n + 1, acc, s => if s = [] then some acc else if 60 < (acc ++ (pieceP low s).1).length then none else findF low n (acc ++ (pieceP low s).1) (pieceP low s).2
def findP (low : List UInt8 → List UInt8) (s : List UInt8) : Option (List LK) := if 4000 < s.length then none else findF low s.length [] s
def ampL : List UInt8 := [38, 97, 109, 112, 59]
def unamp (s : List UInt8) : List UInt8 := Lib.replaceAll s ampL [38]
def okT (c : UInt8) : Bool := decide (33 ≤ c.toNat) && decide (c.toNat ≤ 126) && !([34, 39, 60, 62, 38, 61] : List UInt8).contains c
def plainT (t : List UInt8) : Bool := t.all okT
def fillP : List LK → List (List UInt8) → List UInt8 → List UInt8
 | x :: ls, t :: ts, s => if t = [] then fillP ls ts s else s.take (s.length - x.1) ++ t ++ fillP ls ts (s.drop (s.length - x.1 + x.2.length))
 | _, _, s => s
theorem drop_dropWhile {α : Type} (p : α → Bool) (s : List α) : (s.dropWhile p).length ≤ s.length := by
 induction s with
 | nil => exact Nat.le_refl _
 | cons c t ih => simp only [List.dropWhile_cons]; split <;> simp <;> omega
theorem val_len (s : List UInt8) : (valP s).2.2.length ≤ s.length := by
 unfold valP
 cases s with
 | nil => exact Nat.le_refl _
 | cons c t =>
  simp only
  split
  ·have := drop_dropWhile (notQ c) t; simp only [List.length_drop, List.length_cons]; omega
  ·exact drop_dropWhile inBare (c :: t)
theorem beh_len (s : List UInt8) : (behP s).2.length ≤ s.length := by
 unfold behP
 cases s with
 | nil => exact Nat.le_refl _
 | cons c t =>
  simp only
  split
  ·have h1 := val_len (t.dropWhile spB); have h2 := drop_dropWhile spB t; simp only [List.length_cons]; omega
  ·exact Nat.le_refl _
theorem attr_len (c : UInt8) (t : List UInt8) : (attrP (c :: t)).2.length ≤ t.length := by
 unfold attrP
 have h1 := beh_len ((((c :: t).drop 1).dropWhile inAttr).dropWhile spB)
 have h2 := drop_dropWhile spB (((c :: t).drop 1).dropWhile inAttr)
 have h3 := drop_dropWhile inAttr ((c :: t).drop 1)
 have h4 : ((c :: t).drop 1).length = t.length := rfl
 omega
theorem dropWhile_le_cons {p : UInt8 → Bool} {s t : List UInt8} {c : UInt8} (h : s.dropWhile p = c :: t) : t.length < s.length := by
 have := drop_dropWhile p s; rw [h] at this; simp at this; omega
theorem tagF_fuel (low : List UInt8 → List UInt8) : ∀ (n m : Nat) (seen : List (List UInt8)) (s : List UInt8), s.length < n → s.length < m → tagF low n seen s = tagF low m seen s
 | 0, _, _, s, h, _ => absurd h (Nat.not_lt_zero _)
 | _, 0, _, s, _, h => absurd h (Nat.not_lt_zero _)
 | n + 1, m + 1, seen, s, h1, h2 => by
  unfold tagF
  cases h : s.dropWhile inGap with
  | nil => rfl
  | cons c t =>
   simp only
   have h3 := dropWhile_le_cons h
   have h4 := attr_len c t
   rw [tagF_fuel low n m _ _ (by omega) (by omega)]
theorem tag_len (low : List UInt8 → List UInt8) : ∀ (n : Nat) (seen : List (List UInt8)) (s : List UInt8), (tagF low n seen s).2.length ≤ s.length
 | 0, _, _ => Nat.zero_le _
 | n + 1, seen, s => by
  unfold tagF
  cases h : s.dropWhile inGap with
  | nil => exact Nat.zero_le _
  | cons c t =>
   simp only
   have h3 := dropWhile_le_cons h
   have h4 := attr_len c t
   split
   ·simp only; omega
   ·have := tag_len low n (low (nameP (c :: t)) :: seen) (attrP (c :: t)).2
    simp only
    omega
theorem behind_len (m s : List UInt8) : (behindL m s).length ≤ s.length := by
 unfold behindL
 split
 ·exact Nat.zero_le _
 ·simp only [List.length_drop]; omega
theorem tagP_len (low : List UInt8 → List UInt8) (s : List UInt8) : (tagP low s).2.length ≤ s.length := by
 unfold tagP
 have h1 := tag_len low ((s.dropWhile inName).length + 1) [] (s.dropWhile inName)
 have h2 := drop_dropWhile inName s
 omega
theorem piece_len (low : List UInt8 → List UInt8) (c : UInt8) (t : List UInt8) : (pieceP low (c :: t)).2.length < (c :: t).length := by
 unfold pieceP
 split
 ·have := behind_len comE ((c :: t).drop 4); simp only [List.length_drop, List.length_cons] at *; omega
 ·split
  ·simp only [behindL]; split
   ·simp
   ·simp only [List.length_drop, List.length_cons, List.length_nil]; omega
  ·split
   ·have := tagP_len low ((c :: t).drop 1); simp only [List.length_drop, List.length_cons] at *; omega
   ·split
    ·have := tagP_len low ((c :: t).drop 2); simp only [List.length_drop, List.length_cons] at *; omega
    ·simp
theorem findF_fuel (low : List UInt8 → List UInt8) : ∀ (n m : Nat) (acc : List LK) (s : List UInt8), s.length ≤ n → s.length ≤ m → findF low n acc s = findF low m acc s
 | 0, 0, _, _, _, _ => rfl
 | 0, m + 1, acc, s, h, _ => by
  obtain rfl : s = [] := List.length_eq_zero_iff.1 (by omega)
  simp [findF]
 | n + 1, 0, acc, s, _, h => by
  obtain rfl : s = [] := List.length_eq_zero_iff.1 (by omega)
  simp [findF]
 | n + 1, m + 1, acc, s, h1, h2 => by
  unfold findF
  cases s with
  | nil => rfl
  | cons c t =>
   have := piece_len low c t
   rw [findF_fuel low n m _ _ (by omega) (by omega)]
end Go.Proofs.YtbbfcbodhmeanaaGreatDoor



namespace Go.Proofs.YtbbfcbodhmeanaaGreatDoor
structure PT where
 ty : ByteArray
 cs : ByteArray
 id : ByteArray
 loc : ByteArray
 how : Int
 body : List UInt8
 kids : List PT
def pt0 : PT := ⟨⟨#[]⟩, ⟨#[]⟩, ⟨#[]⟩, ⟨#[]⟩, 0, [], []⟩
def PT.alone (p : PT) : PT := { p with kids := [] }
def multi : List UInt8 := [109, 117, 108, 116, 105, 112, 97, 114, 116, 47]
def typeS (s : List UInt8) : Bool := match cutB 47 s with
 | none => false
 | some x => tokenS x.1 && tokenS x.2 && !s.any (fun c => decide (65 ≤ c.toNat) && decide (c.toNat ≤ 90))
def manyS (s : List UInt8) : Bool := Lib.hasPrefix s multi
def wordC : UInt8 → Bool := inB 33 126 [34, 60, 62]
def wordS (s : List UInt8) : Bool := decide (s.length ≤ 120) && s.all wordC
def textsOk (p : PT) : Bool := typeS p.ty.data.toList && (p.cs.data.toList.isEmpty || tokenS p.cs.data.toList) && wordS p.id.data.toList && wordS p.loc.data.toList
def formedP (p : PT) : Bool :=
 if manyS p.ty.data.toList then !p.kids.isEmpty && p.body.isEmpty && decide (p.how = 0) && p.cs.data.toList.isEmpty
 else p.kids.isEmpty
def chkA (p : PT) : Nat :=
 if textsOk p = false then 1 else if p.how < 0 ∨ 2 < p.how then 3 else if 4000 < p.body.length then 2 else if formedP p = false then 4 else 0
def put : Nat → List (PT × Int) → PT → Nat → Int → Option (List (PT × Int))
 | 0, _, _, _, _ => none
 | f + 1, l, p, depth, inn =>
  if l.length = 12 ∨ 3 < depth then none
  else p.kids.foldl (fun acc k => acc.bind fun m => put f m k (depth + 1) l.length) (some (l ++ [(p, inn)]))
def putAll (f : Nat) (depth : Nat) (inn : Int) (l : List (PT × Int)) (ks : List PT) : Option (List (PT × Int)) :=
 ks.foldl (fun acc k => acc.bind fun m => put f m k depth inn) (some l)
theorem foldl_none (f : Nat) (depth : Nat) (inn : Int) : ∀ ks : List PT, ks.foldl (fun acc k => acc.bind fun m => put f m k depth inn) none = none
 | [] => rfl
 | _ :: ks => by rw [List.foldl_cons]; exact foldl_none f depth inn ks
theorem putAll_nil (f depth : Nat) (inn : Int) (l : List (PT × Int)) : putAll f depth inn l [] = some l := rfl
theorem putAll_some (f depth : Nat) (inn : Int) (l m : List (PT × Int)) (k : PT) (ks : List PT) (h : put f l k depth inn = some m) : putAll f depth inn l (k :: ks) = putAll f depth inn m ks := by
 unfold putAll; rw [List.foldl_cons, Option.bind_some, h]
theorem putAll_none (f depth : Nat) (inn : Int) (l : List (PT × Int)) (k : PT) (ks : List PT) (h : put f l k depth inn = none) : putAll f depth inn l (k :: ks) = none := by
 unfold putAll; rw [List.foldl_cons, Option.bind_some, h, foldl_none]
theorem put_stop (f : Nat) (l : List (PT × Int)) (p : PT) (depth : Nat) (inn : Int) (h : l.length = 12 ∨ 3 < depth) : put (f + 1) l p depth inn = none := by rw [put, if_pos h]
theorem put_go (f : Nat) (l : List (PT × Int)) (p : PT) (depth : Nat) (inn : Int) (h : ¬ (l.length = 12 ∨ 3 < depth)) : put (f + 1) l p depth inn = putAll f (depth + 1) l.length (l ++ [(p, inn)]) p.kids := by rw [put, if_neg h]; rfl
theorem putAll_length (f : Nat) (ih : ∀ l m p depth inn, l.length ≤ 12 → put f l p depth inn = some m → l.length ≤ m.length ∧ m.length ≤ 12) (depth : Nat) (inn : Int) : ∀ (ks : List PT) (l m : List (PT × Int)), l.length ≤ 12 → putAll f depth inn l ks = some m → l.length ≤ m.length ∧ m.length ≤ 12
 | [], l, m, hl, h => by rw [putAll_nil] at h; cases h; exact ⟨Nat.le_refl _, hl⟩
 | k :: ks, l, m, hl, h => by
  cases hk : put f l k depth inn with
  | none => rw [putAll_none f depth inn l k ks hk] at h; cases h
  | some n =>
   rw [putAll_some f depth inn l n k ks hk] at h
   have h1 := ih l n k depth inn hl hk
   have h2 := putAll_length f ih depth inn ks n m h1.2 h
   omega
theorem put_length : ∀ (f : Nat) (l m : List (PT × Int)) (p : PT) (depth : Nat) (inn : Int), l.length ≤ 12 → put f l p depth inn = some m → l.length ≤ m.length ∧ m.length ≤ 12
 | 0, _, _, _, _, _, _, h => by rw [put] at h; cases h
 | f + 1, l, m, p, depth, inn, hl, h => by
  by_cases hs : l.length = 12 ∨ 3 < depth
  ·rw [put_stop f l p depth inn hs] at h; cases h
  ·rw [put_go f l p depth inn hs] at h
   have := putAll_length f (put_length f) (depth + 1) l.length p.kids (l ++ [(p, inn)]) m (by rw [List.length_append]; simp; omega) h
   rw [List.length_append] at this
   omega
def firstBad : List (PT × Int) → Nat
 | [] => 0
 | x :: l => if chkA x.1 = 0 then firstBad l else chkA x.1
def placesP (p : PT) : Nat × List (PT × Int) := match put 4 [] p 1 (-1) with
 | none => (2, [])
 | some l => if firstBad l = 0 then (0, l) else (firstBad l, [])
end Go.Proofs.YtbbfcbodhmeanaaGreatDoor



namespace Go.Proofs.YtbbfcbodhmeanaaGreatDoor
def ledU (a b : List UInt8) : List UInt8 :=
 if (parseU a).2 ≠ 0 then [] else if (parseU b).2 ≠ 0 then [] else if (leadU (parseU a).1 (parseU b).1).2 ≠ 0 then [] else (printU (leadU (parseU a).1 (parseU b).1).1).1
def nowS : List UInt8 := [116, 104, 105, 115, 109, 101, 115, 115, 97, 103, 101, 58, 47]
def htmlS : List UInt8 := [116, 101, 120, 116, 47, 104, 116, 109, 108]
def cidS : List UInt8 := [99, 105, 100, 58]
def fromW (wh : List (List UInt8)) (i : Int) : List UInt8 := if i < 0 then nowS else if wh.getD i.toNat [] = [] then nowS else wh.getD i.toNat []
def stepW (wh : List (List UInt8)) (x : PT × Int) : List UInt8 := if x.1.loc.data.toList = [] then fromW wh x.2 else ledU (fromW wh x.2) x.1.loc.data.toList
def whereP (l : List (PT × Int)) : List (List UInt8) := l.foldl (fun wh x => wh ++ [stepW wh x]) []
def noFr (s : List UInt8) : List UInt8 := match cutB 35 s with | none => s | some x => x.1
def firstP (ok : Nat → PT → Bool) : Nat → List PT → Int
 | _, [] => -1
 | k, p :: l => if manyS p.ty.data.toList = false ∧ ok k p = true then (k : Int) else firstP ok (k + 1) l
def okID (t : List UInt8) (_ : Nat) (p : PT) : Bool := !p.id.data.toList.isEmpty && (p.id.data.toList == t)
def okLoc (wh : List (List UInt8)) (t : List UInt8) (k : Nat) (p : PT) : Bool := !p.loc.data.toList.isEmpty && (noFr (wh.getD k []) == t)
def findW (l : List PT) (wh : List (List UInt8)) (tw : List UInt8) : Int :=
 if tw = [] then -1 else if Lib.hasPrefix (noFr tw) cidS = true then firstP (okID ((noFr tw).drop 4)) 0 l else firstP (okLoc wh (noFr tw)) 0 l
structure GL where
 part : Int
 fr : Int
 tt : Int
 text : List UInt8
 led : List UInt8
 find : Int
def goalOf (l : List PT) (wh : List (List UInt8)) (i n : Nat) (x : LK) : GL :=
 ⟨i, ((n - x.1 : Nat) : Int), ((n - x.1 + x.2.length : Nat) : Int), unamp x.2, ledU (fromW wh i) (unamp x.2), findW l wh (ledU (fromW wh i) (unamp x.2))⟩
def goalsGo (low : List UInt8 → List UInt8) (l : List PT) (wh : List (List UInt8)) : Nat → List PT → List GL → Option (List GL)
 | _, [], acc => some acc
 | k, p :: r, acc => if p.ty.data.toList = htmlS then (match findP low p.body with | none => none | some ls => goalsGo low l wh (k + 1) r (acc ++ ls.map (goalOf l wh k p.body.length))) else goalsGo low l wh (k + 1) r acc
theorem whereP_snoc (l : List (PT × Int)) (x : PT × Int) : whereP (l ++ [x]) = whereP l ++ [stepW (whereP l) x] := by simp [whereP]
theorem whereP_length (l : List (PT × Int)) : (whereP l).length = l.length := by
 have : ∀ (l : List (PT × Int)) (acc : List (List UInt8)), (l.foldl (fun wh x => wh ++ [stepW wh x]) acc).length = acc.length + l.length := by
  intro l
  induction l with
  | nil => intro acc; simp
  | cons x l ih => intro acc; rw [List.foldl_cons, ih]; simp; omega
 have h := this l []
 simpa [whereP] using h
theorem printU_len (u : UL) : (printU u).1.length ≤ 120 := by
 unfold printU
 split
 ·rename_i h
  unfold checkU at h
  split at h
  ·cases h
  ·split at h
   ·cases h
   ·split at h
    ·cases h
    ·split at h
     ·cases h
     ·simp only; omega
 ·simp
theorem ledU_len (a b : List UInt8) : (ledU a b).length ≤ 120 := by
 unfold ledU
 split
 ·simp
 ·split
  ·simp
  ·split
   ·simp
   ·exact printU_len _
theorem nowS_len : nowS.length = 13 := rfl
theorem fromW_len (wh : List (List UInt8)) (h : ∀ x ∈ wh, x.length ≤ 120) (i : Int) : (fromW wh i).length ≤ 120 := by
 unfold fromW
 split
 ·rw [nowS_len]; omega
 ·split
  ·rw [nowS_len]; omega
  ·rw [List.getD_eq_getElem?_getD]
   cases hx : wh[i.toNat]? with
   | none => simp
   | some y => simpa using h y (List.mem_of_getElem? hx)
theorem stepW_len (wh : List (List UInt8)) (h : ∀ x ∈ wh, x.length ≤ 120) (x : PT × Int) : (stepW wh x).length ≤ 120 := by
 unfold stepW
 split
 ·exact fromW_len wh h _
 ·exact ledU_len _ _
theorem whereP_each (l : List (PT × Int)) : ∀ x ∈ whereP l, x.length ≤ 120 := by
 have : ∀ (l : List (PT × Int)) (acc : List (List UInt8)), (∀ x ∈ acc, x.length ≤ 120) → ∀ x ∈ l.foldl (fun wh x => wh ++ [stepW wh x]) acc, x.length ≤ 120 := by
  intro l
  induction l with
  | nil => intro acc h; exact h
  | cons y l ih =>
   intro acc h
   rw [List.foldl_cons]
   refine ih _ (fun x hx => ?_)
   rcases List.mem_append.1 hx with hx | hx
   ·exact h x hx
   ·simp at hx; rw [hx]; exact stepW_len acc h y
 exact this l [] (by simp)
end Go.Proofs.YtbbfcbodhmeanaaGreatDoor



namespace Go.Proofs.YtbbfcbodhmeanaaGreatDoor
def sub (n : Nat) (x : PT × Option Nat) : PT × Option Nat := (x.1, some (match x.2 with | none => 0 | some j => j + n))
def abs (n : Nat) (inn : Int) (x : PT × Option Nat) : PT × Int := (x.1, match x.2 with | none => inn | some j => ((n + j : Nat) : Int))
def tree : Nat → PT → List (PT × Option Nat)
 | 0, _ => []
 | f + 1, p => p.kids.foldl (fun acc k => acc ++ (tree f k).map (sub acc.length)) [(p, none)]
def grow (f : Nat) (acc : List (PT × Option Nat)) (ks : List PT) : List (PT × Option Nat) := ks.foldl (fun acc k => acc ++ (tree f k).map (sub acc.length)) acc
theorem grow_nil (f : Nat) (acc : List (PT × Option Nat)) : grow f acc [] = acc := rfl
theorem grow_cons (f : Nat) (acc : List (PT × Option Nat)) (k : PT) (ks : List PT) : grow f acc (k :: ks) = grow f (acc ++ (tree f k).map (sub acc.length)) ks := rfl
theorem tree_grow (f : Nat) (p : PT) : tree (f + 1) p = grow f [(p, none)] p.kids := by rw [tree]; rfl
theorem grow_le (f : Nat) : ∀ (ks : List PT) (acc : List (PT × Option Nat)), acc.length ≤ (grow f acc ks).length
 | [], acc => Nat.le_refl _
 | k :: ks, acc => by
  rw [grow_cons]
  have := grow_le f ks (acc ++ (tree f k).map (sub acc.length))
  rw [List.length_append] at this
  omega
theorem tree_pos (f : Nat) (p : PT) : 1 ≤ (tree (f + 1) p).length := by
 rw [tree_grow]; exact grow_le f p.kids [(p, none)]
def lev : Nat → PT → Bool
 | 0, _ => false
 | n + 1, p => p.kids.all (lev n)
theorem lev_succ (n : Nat) (p : PT) : lev (n + 1) p = p.kids.all (lev n) := by rw [lev]
theorem abs_sub (n a : Nat) (inn : Int) (x : PT × Option Nat) : abs n inn (sub a x) = abs (n + a) n x := by
 obtain ⟨x, j⟩ := x
 cases j with
 | none => simp [abs, sub]
 | some j => simp only [abs, sub]; congr 1; omega
theorem putAll_spec (f : Nat) (ih : ∀ l p inn, l.length ≤ 12 → put (f + 1) l p (4 - f) inn = if lev f p = true ∧ l.length + (tree (f + 1) p).length ≤ 12 then some (l ++ (tree (f + 1) p).map (abs l.length inn)) else none) (l : List (PT × Int)) (inn : Int) :
  ∀ (ks : List PT) (acc : List (PT × Option Nat)), l.length + acc.length ≤ 12 → putAll (f + 1) (4 - f) l.length (l ++ acc.map (abs l.length inn)) ks =
   if ks.all (lev f) = true ∧ l.length + (grow (f + 1) acc ks).length ≤ 12 then some (l ++ (grow (f + 1) acc ks).map (abs l.length inn)) else none
 | [], acc, h => by rw [putAll_nil, grow_nil, if_pos ⟨rfl, h⟩]
 | k :: ks, acc, h => by
  have hk := ih (l ++ acc.map (abs l.length inn)) k l.length (by rw [List.length_append, List.length_map]; exact h)
  rw [List.length_append, List.length_map] at hk
  have hg := grow_le (f + 1) ks (acc ++ (tree (f + 1) k).map (sub acc.length))
  rw [List.length_append, List.length_map] at hg
  rw [grow_cons]
  by_cases hc : lev f k = true ∧ l.length + acc.length + (tree (f + 1) k).length ≤ 12
  ·rw [if_pos hc] at hk
   rw [putAll_some _ _ _ _ _ _ _ hk]
   have e : (l ++ acc.map (abs l.length inn)) ++ (tree (f + 1) k).map (abs (l.length + acc.length) l.length) = l ++ (acc ++ (tree (f + 1) k).map (sub acc.length)).map (abs l.length inn) := by
    rw [List.map_append, List.map_map, List.append_assoc]
    congr 2
    exact List.map_congr_left fun x _ => (abs_sub _ _ _ x).symm
   rw [e, putAll_spec f ih l inn ks _ (by rw [List.length_append, List.length_map]; omega), List.all_cons, hc.1, Bool.true_and]
  ·rw [if_neg hc] at hk
   rw [putAll_none _ _ _ _ _ _ hk, if_neg]
   rintro ⟨h1, h2⟩
   rw [List.all_cons, Bool.and_eq_true] at h1
   exact hc ⟨h1.1, by omega⟩
theorem put_spec : ∀ (f : Nat), f ≤ 3 → ∀ (l : List (PT × Int)) (p : PT) (inn : Int), l.length ≤ 12 →
  put (f + 1) l p (4 - f) inn = if lev f p = true ∧ l.length + (tree (f + 1) p).length ≤ 12 then some (l ++ (tree (f + 1) p).map (abs l.length inn)) else none
 | 0, _, l, p, inn, _ => by rw [put_stop _ _ _ _ _ (Or.inr (by omega)), if_neg (fun h => by have := h.1; rw [lev] at this; cases this)]
 | f + 1, hf, l, p, inn, hl => by
  by_cases hs : l.length = 12
  ·rw [put_stop _ _ _ _ _ (Or.inl hs), if_neg]
   have := tree_pos (f + 1) p
   omega
  ·rw [put_go _ _ _ _ _ (by omega), show 4 - (f + 1) + 1 = 4 - f from by omega]
   have := putAll_spec f (fun l p inn hl => put_spec f (by omega) l p inn hl) l inn p.kids [(p, none)] (by simp; omega)
   rw [show l ++ [(p, none)].map (abs l.length inn) = l ++ [(p, inn)] from rfl] at this
   rw [this, ← tree_grow, ← lev_succ]
theorem places_spec (p : PT) : put 4 [] p 1 (-1) = if lev 3 p = true ∧ (tree 4 p).length ≤ 12 then some ((tree 4 p).map (abs 0 (-1))) else none := by
 have := put_spec 3 (by omega) [] p (-1) (by simp)
 simpa using this
end Go.Proofs.YtbbfcbodhmeanaaGreatDoor


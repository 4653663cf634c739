/- Plain functions on lists of bytes: the links of a page, and texts in their places. No program. -/
import Derived.Lib.Strings
import Derived.Lib.Bytealg
import Derived.Lib.Replace
namespace Go.Proofs.YtdlnlepecdcmjaaDoor

def spB (c : UInt8) : Bool := [32, 9, 13, 10, 12].contains c
def letB (c : UInt8) : Bool := (decide (97 ≤ c.toNat) && decide (c.toNat ≤ 122)) || (decide (65 ≤ c.toNat) && decide (c.toNat ≤ 90))
def inName (c : UInt8) : Bool := !spB c && c != 47 && c != 62
def inGap (c : UInt8) : Bool := spB c || c == 47
def inAttr (c : UInt8) : Bool := !spB c && c != 47 && c != 62 && c != 61
def inBare (c : UInt8) : Bool := !spB c && c != 62
def notQ (q c : UInt8) : Bool := c != q
def hrefL : List UInt8 := [104, 114, 101, 102]
def srcL : List UInt8 := [115, 114, 99]
def qB (c : UInt8) : Bool := c == 34 || c == 39
/-- A link: how many bytes are left from its value on, and the value. -/
abbrev LK := Nat × List UInt8
/-- A value: where it stands (what is left from there), it, what is behind it. -/
def valP : List UInt8 → List UInt8 × List UInt8 × List UInt8
  | [] => ([], [], [])
  | c :: t => if qB c = true then (t, t.takeWhile (notQ c), (t.dropWhile (notQ c)).drop 1) else (c :: t, (c :: t).takeWhile inBare, (c :: t).dropWhile inBare)
/-- Behind the name of an attribute: a value, if it has one; what is left. -/
def behP : List UInt8 → Option LK × List UInt8
  | [] => (none, [])
  | c :: t => if c = 61 then (some ((valP (t.dropWhile spB)).1.length, (valP (t.dropWhile spB)).2.1), (valP (t.dropWhile spB)).2.2) else (none, c :: t)
/-- The name of an attribute (which is there). -/
def nameP (s : List UInt8) : List UInt8 := s.take 1 ++ (s.drop 1).takeWhile inAttr
def attrP (s : List UInt8) : Option LK × List UInt8 := behP (((s.drop 1).dropWhile inAttr).dropWhile spB)
def mineP (seen : List (List UInt8)) (nm : List UInt8) (v : Option LK) : List LK :=
  match v with
  | none => []
  | some x => if seen.contains nm = false ∧ (nm = hrefL ∨ nm = srcL) then [x] else []
/-- The attributes of a tag: its links, if it has an end; what is behind it. -/
def tagF (low : List UInt8 → List UInt8) : Nat → List (List UInt8) → List UInt8 → Option (List LK) × List UInt8
  | 0, _, _ => (none, [])
  | n + 1, seen, s => match s.dropWhile inGap with
    | [] => (none, [])
    | c :: t => if c = 62 then (some [], t) else
      ((tagF low n (low (nameP (c :: t)) :: seen) (attrP (c :: t)).2).1.map (mineP seen (low (nameP (c :: t))) (attrP (c :: t)).1 ++ ·), (tagF low n (low (nameP (c :: t)) :: seen) (attrP (c :: t)).2).2)
def behindL (m s : List UInt8) : List UInt8 := if Lib.index s m < 0 then [] else s.drop ((Lib.index s m).toNat + m.length)
def headL (s : List UInt8) : Bool := match s with
  | [] => false
  | c :: _ => letB c
def tagB (m s : List UInt8) : Bool := m.isPrefixOf s && headL (s.drop m.length)
def tagP (low : List UInt8 → List UInt8) (s : List UInt8) : Option (List LK) × List UInt8 := tagF low ((s.dropWhile inName).length + 1) [] (s.dropWhile inName)
def comL : List UInt8 := [60, 33, 45, 45]
def comE : List UInt8 := [45, 45, 62]
/-- A piece of the page: its links, what is behind it. -/
def pieceP (low : List UInt8 → List UInt8) (s : List UInt8) : List LK × List UInt8 :=
  if comL.isPrefixOf s = true then ([], behindL comE (s.drop 4))
  else if ([60, 33] : List UInt8).isPrefixOf s = true ∨ ([60, 63] : List UInt8).isPrefixOf s = true then ([], behindL [62] s)
  else if tagB [60] s = true then ((tagP low (s.drop 1)).1.getD [], (tagP low (s.drop 1)).2)
  else if tagB [60, 47] s = true then ([], (tagP low (s.drop 2)).2)
  else ([], s.drop 1)
def findF (low : List UInt8 → List UInt8) : Nat → List LK → List UInt8 → Option (List LK)
  | 0, acc, _ => some acc
  | n + 1, acc, s => if s = [] then some acc else if 60 < (acc ++ (pieceP low s).1).length then none else findF low n (acc ++ (pieceP low s).1) (pieceP low s).2
def findP (low : List UInt8 → List UInt8) (s : List UInt8) : Option (List LK) := if 4000 < s.length then none else findF low s.length [] s
def ampL : List UInt8 := [38, 97, 109, 112, 59]
def unamp (s : List UInt8) : List UInt8 := Lib.replaceAll s ampL [38]
def okT (c : UInt8) : Bool := decide (33 ≤ c.toNat) && decide (c.toNat ≤ 126) && !([34, 39, 60, 62, 38, 61] : List UInt8).contains c
def plainT (t : List UInt8) : Bool := t.all okT
/-- Texts in the places of the links; [] : that stays. -/
def fillP : List LK → List (List UInt8) → List UInt8 → List UInt8
  | x :: ls, t :: ts, s => if t = [] then fillP ls ts s else s.take (s.length - x.1) ++ t ++ fillP ls ts (s.drop (s.length - x.1 + x.2.length))
  | _, _, s => s
/-- What Put answers: the bytes, and the error. -/
def putP (low : List UInt8 → List UInt8) (b : List UInt8) (texts : List (List UInt8)) : List UInt8 × Nat :=
  match findP low b with
  | none => ([], 2)
  | some l => if texts.length ≠ l.length then ([], 4) else if texts.all plainT = false then ([], 1) else if 4000 < (fillP l texts b).length then ([], 2) else (fillP l texts b, 0)

theorem drop_dropWhile {α : Type} (p : α → Bool) (s : List α) : (s.dropWhile p).length ≤ s.length := by
  induction s with
  | nil => exact Nat.le_refl _
  | cons c t ih => simp only [List.dropWhile_cons]; split <;> simp <;> omega
theorem val_len (s : List UInt8) : (valP s).2.2.length ≤ s.length := by
  unfold valP
  cases s with
  | nil => exact Nat.le_refl _
  | cons c t =>
    simp only
    split
    · have := drop_dropWhile (notQ c) t; simp only [List.length_drop, List.length_cons]; omega
    · exact drop_dropWhile inBare (c :: t)
theorem beh_len (s : List UInt8) : (behP s).2.length ≤ s.length := by
  unfold behP
  cases s with
  | nil => exact Nat.le_refl _
  | cons c t =>
    simp only
    split
    · have h1 := val_len (t.dropWhile spB); have h2 := drop_dropWhile spB t; simp only [List.length_cons]; omega
    · exact Nat.le_refl _
theorem attr_len (c : UInt8) (t : List UInt8) : (attrP (c :: t)).2.length ≤ t.length := by
  unfold attrP
  have h1 := beh_len ((((c :: t).drop 1).dropWhile inAttr).dropWhile spB)
  have h2 := drop_dropWhile spB (((c :: t).drop 1).dropWhile inAttr)
  have h3 := drop_dropWhile inAttr ((c :: t).drop 1)
  have h4 : ((c :: t).drop 1).length = t.length := rfl
  omega
theorem dropWhile_le_cons {p : UInt8 → Bool} {s t : List UInt8} {c : UInt8} (h : s.dropWhile p = c :: t) : t.length < s.length := by
  have := drop_dropWhile p s; rw [h] at this; simp at this; omega
/-- Enough is enough. -/
theorem tagF_fuel (low : List UInt8 → List UInt8) : ∀ (n m : Nat) (seen : List (List UInt8)) (s : List UInt8), s.length < n → s.length < m → tagF low n seen s = tagF low m seen s
  | 0, _, _, s, h, _ => absurd h (Nat.not_lt_zero _)
  | _, 0, _, s, _, h => absurd h (Nat.not_lt_zero _)
  | n + 1, m + 1, seen, s, h1, h2 => by
    unfold tagF
    cases h : s.dropWhile inGap with
    | nil => rfl
    | cons c t =>
      simp only
      have h3 := dropWhile_le_cons h
      have h4 := attr_len c t
      rw [tagF_fuel low n m _ _ (by omega) (by omega)]
theorem tag_len (low : List UInt8 → List UInt8) : ∀ (n : Nat) (seen : List (List UInt8)) (s : List UInt8), (tagF low n seen s).2.length ≤ s.length
  | 0, _, _ => Nat.zero_le _
  | n + 1, seen, s => by
    unfold tagF
    cases h : s.dropWhile inGap with
    | nil => exact Nat.zero_le _
    | cons c t =>
      simp only
      have h3 := dropWhile_le_cons h
      have h4 := attr_len c t
      split
      · simp only; omega
      · have := tag_len low n (low (nameP (c :: t)) :: seen) (attrP (c :: t)).2
        simp only
        omega
theorem behind_len (m s : List UInt8) : (behindL m s).length ≤ s.length := by
  unfold behindL
  split
  · exact Nat.zero_le _
  · simp only [List.length_drop]; omega
theorem tagP_len (low : List UInt8 → List UInt8) (s : List UInt8) : (tagP low s).2.length ≤ s.length := by
  unfold tagP
  have h1 := tag_len low ((s.dropWhile inName).length + 1) [] (s.dropWhile inName)
  have h2 := drop_dropWhile inName s
  omega
theorem index_ge_0 (s m : List UInt8) (h : ¬ Lib.index s m < 0) : ((Lib.index s m).toNat : Int) = Lib.index s m := by omega
theorem piece_len (low : List UInt8 → List UInt8) (c : UInt8) (t : List UInt8) : (pieceP low (c :: t)).2.length < (c :: t).length := by
  unfold pieceP
  split
  · have := behind_len comE ((c :: t).drop 4); simp only [List.length_drop, List.length_cons] at *; omega
  · split
    · simp only [behindL]; split
      · simp
      · simp only [List.length_drop, List.length_cons, List.length_nil]; omega
    · split
      · have := tagP_len low ((c :: t).drop 1); simp only [List.length_drop, List.length_cons] at *; omega
      · split
        · have := tagP_len low ((c :: t).drop 2); simp only [List.length_drop, List.length_cons] at *; omega
        · simp
theorem findF_fuel (low : List UInt8 → List UInt8) : ∀ (n m : Nat) (acc : List LK) (s : List UInt8), s.length ≤ n → s.length ≤ m → findF low n acc s = findF low m acc s
  | 0, 0, _, _, _, _ => rfl
  | 0, m + 1, acc, s, h, _ => by
    obtain rfl : s = [] := List.length_eq_zero_iff.1 (by omega)
    simp [findF]
  | n + 1, 0, acc, s, _, h => by
    obtain rfl : s = [] := List.length_eq_zero_iff.1 (by omega)
    simp [findF]
  | n + 1, m + 1, acc, s, h1, h2 => by
    unfold findF
    cases s with
    | nil => rfl
    | cons c t =>
      have := piece_len low c t
      rw [findF_fuel low n m _ _ (by omega) (by omega)]
end Go.Proofs.YtdlnlepecdcmjaaDoor

/- Plain functions on lists of bytes: tokens, values, fields and how they are printed. No program. -/
namespace Go.Proofs.YtdlnlepecdcmjaaDoor

def specials : List UInt8 := [40, 41, 60, 62, 64, 44, 59, 58, 92, 34, 47, 91, 93, 63, 61]
/-- From one to another one, and none of some. -/
def inB (lo hi : Nat) (but : List UInt8) (c : UInt8) : Bool := decide (lo ≤ c.toNat) && decide (c.toNat ≤ hi) && !but.contains c
def betw (lo hi : Nat) (but l : List UInt8) : Bool := l.all (inB lo hi but)
theorem betw_nil (lo hi : Nat) (but : List UInt8) : betw lo hi but [] = true := rfl
theorem betw_cons (lo hi : Nat) (but : List UInt8) (c : UInt8) (l : List UInt8) : betw lo hi but (c :: l) = (inB lo hi but c && betw lo hi but l) := rfl
def tokenS (l : List UInt8) : Bool := decide (1 ≤ l.length) && decide (l.length ≤ 30) && betw 33 126 specials l
def valueS (l : List UInt8) : Bool := decide (l.length ≤ 900) && betw 32 126 [] l && !(l.head? == some 32) && !(l.getLast? == some 32)
abbrev Fld := List UInt8 × List UInt8
def okF (f : Fld) : Bool := tokenS f.1 && valueS f.2
def checkF (fs : List Fld) : Nat := if 20 < fs.length then 2 else if fs.all okF = true then 0 else 1
def lineF (f : Fld) : List UInt8 := f.1 ++ [58, 32] ++ f.2 ++ [13, 10]
def textF (fs : List Fld) : List UInt8 := fs.flatMap lineF ++ [13, 10]

theorem indexByte_mem (l : List UInt8) (c : UInt8) : decide (0 ≤ Lib.indexByte l c) = l.contains c := by
  induction l with
  | nil => rfl
  | cons b l ih =>
    rw [Lib.indexByte]
    by_cases h : b = c
    · subst h; simp
    · have h2 : (c == b) = false := by rw [beq_eq_false_iff_ne]; exact fun e => h e.symm
      rw [if_neg (by simpa using h), List.contains_cons, h2, Bool.false_or, ← ih]
      by_cases h1 : Lib.indexByte l c = -1
      · rw [h1]; rfl
      · rw [if_neg (by simpa using h1)]
        have : -1 ≤ Lib.indexByte l c := by
          clear ih h h2 h1
          induction l with
          | nil => simp [Lib.indexByte]
          | cons b l ih => rw [Lib.indexByte]; split; · omega
                           · split; · omega
                             · omega
        by_cases h0 : 0 ≤ Lib.indexByte l c
        · simp [h0]; omega
        · omega
end Go.Proofs.YtdlnlepecdcmjaaDoor

/- Plain functions on lists of bytes: what reading printable signs gives; strings taken apart. No program. -/
import Derived.Lib.Split
import Derived.Lib.Strings
namespace Go.Proofs.YtnjicfhmheaccaaDoor

def hexl : List UInt8 := [48, 49, 50, 51, 52, 53, 54, 55, 56, 57, 65, 66, 67, 68, 69, 70, 97, 98, 99, 100, 101, 102]
def isHex (c : UInt8) : Bool := hexl.contains c
/-- The number of a hexadecimal digit. -/
def hexv (c : UInt8) : Nat := if c.toNat ≤ 57 then c.toNat - 48 else if c.toNat ≤ 70 then c.toNat - 55 else c.toNat - 87

def blankQ (c : UInt8) : Bool := c == 32 || c == 9 || c == 13
/-- Without blanks at the end. -/
def stripR (l : List UInt8) : List UInt8 := (l.reverse.dropWhile blankQ).reverse

theorem stripR_blank (x : List UInt8) (c : UInt8) (h : blankQ c = true) : stripR (x ++ [c]) = stripR x := by
  unfold stripR; rw [List.reverse_append, List.reverse_singleton, List.singleton_append, List.dropWhile_cons, if_pos h]
theorem stripR_other (x : List UInt8) (c : UInt8) (h : blankQ c = false) : stripR (x ++ [c]) = x ++ [c] := by
  unfold stripR; rw [List.reverse_append, List.reverse_singleton, List.singleton_append, List.dropWhile_cons, if_neg (by simp [h])]; simp

def decQ : List UInt8 → Option (List UInt8)
  | [] => some []
  | [c] => if c = 61 then none else some [c]
  | [c, d] => if c = 61 then none else (decQ [d]).map (c :: ·)
  | c :: a :: b :: t => if c = 61 then (if (isHex a && isHex b) = true then (decQ t).map (UInt8.ofNat (hexv a * 16 + hexv b) :: ·) else none) else (decQ (a :: b :: t)).map (c :: ·)

theorem decQ_plain (c : UInt8) (r : List UInt8) (h : c ≠ 61) : decQ (c :: r) = (decQ r).map (c :: ·) := by
  match r with
  | [] => simp [decQ, h]
  | [d] => simp [decQ, h]
  | a :: b :: t => rw [decQ, if_neg h]
theorem decQ_short (r : List UInt8) (h : r.length < 2) : decQ (61 :: r) = none := by
  match r, h with
  | [], _ => simp [decQ]
  | [d], _ => simp [decQ]
theorem decQ_hex (a b : UInt8) (t : List UInt8) (h : (isHex a && isHex b) = true) : decQ (61 :: a :: b :: t) = (decQ t).map (UInt8.ofNat (hexv a * 16 + hexv b) :: ·) := by
  rw [decQ, if_pos rfl, if_pos h]
theorem decQ_bad (a b : UInt8) (t : List UInt8) (h : (isHex a && isHex b) = false) : decQ (61 :: a :: b :: t) = none := by
  rw [decQ, if_pos rfl, if_neg (by simp [h])]

/-- Does l end with c? -/
def endsQ (l : List UInt8) (c : UInt8) : Bool := l.getLast? == some c
/-- A line's signs, and whether a line feed counts. -/
def lineQ (l : List UInt8) : List UInt8 × Bool :=
  if endsQ (stripR (if endsQ l 10 = true then l.dropLast else l)) 61 = true then ((stripR (if endsQ l 10 = true then l.dropLast else l)).dropLast, false)
  else (stripR (if endsQ l 10 = true then l.dropLast else l), endsQ l 10)

def linesQ : List (List UInt8) → List UInt8 → List UInt8 × Nat
  | [], out => (out, 0)
  | l :: r, out =>
    match decQ (lineQ l).1 with
    | none => ([], 1)
    | some d => if 4000 < (out ++ d ++ (if (lineQ l).2 = true then [13, 10] else [])).length then ([], 2) else linesQ r (out ++ d ++ (if (lineQ l).2 = true then [13, 10] else []))

/-- quote.Read: the bytes, and the error's number. -/
def readQ (s : List UInt8) : List UInt8 × Nat :=
  if 16000 < s.length then ([], 2) else linesQ (Lib.splitK [10] 1 (Lib.count s [10]) s) []

theorem splitK_le (sep : List UInt8) (sv : Nat) : ∀ (k : Nat) (s : List UInt8), ∀ x ∈ Lib.splitK sep sv k s, x.length ≤ s.length := by
  intro k
  induction k with
  | zero => intro s x hx; simp [Lib.splitK] at hx; subst hx; exact Nat.le_refl _
  | succ k ih =>
    intro s x hx
    rw [Lib.splitK] at hx
    split at hx
    · simp at hx; subst hx; exact Nat.le_refl _
    · rw [List.mem_cons] at hx
      rcases hx with rfl | hx
      · rw [List.length_take]; omega
      · have := ih _ x hx
        rw [List.length_drop] at this
        omega

theorem ba_snoc (s : ByteArray) (n : Nat) (h : s.size = n + 1) : ∃ (c : UInt8) (s8 : ByteArray), s.extract n (n + 1) = ⟨#[c]⟩ ∧ s.extract 0 n = s8 ∧ s8.size = n ∧ s.data.toList = s8.data.toList ++ [c] := by
  have hl : s.data.toList.length = n + 1 := by rw [Array.length_toList]; exact h
  refine ⟨s.data.toList[n], _, ?_, rfl, ?_, ?_⟩
  · apply ByteArray.ext
    apply Array.toList_inj.1
    rw [Lib.extract_data, show n + 1 - n = 1 from by omega, List.drop_eq_getElem_cons (by omega)]
    rfl
  · rw [Lib.size_eq, Lib.extract_data, List.length_take]; simp; omega
  · rw [Lib.extract_data, List.drop_zero, Nat.sub_zero]
    conv => lhs; rw [← List.take_append_drop n s.data.toList]
    rw [List.drop_eq_getElem_cons (by omega), List.drop_of_length_le (by omega)]

theorem ba_cons (s : ByteArray) (n : Nat) (h : s.size = n + 1) : ∃ (c : UInt8) (s8 : ByteArray), s[0] = c ∧ s.extract 1 (n + 1) = s8 ∧ s8.size = n ∧ s.data.toList = c :: s8.data.toList := by
  have hl : s.data.toList.length = n + 1 := by rw [Array.length_toList]; exact h
  refine ⟨_, _, rfl, rfl, ?_, ?_⟩
  · rw [Lib.size_eq, Lib.extract_data, List.length_take]; simp; omega
  · rw [Lib.extract_data, List.take_of_length_le (by rw [List.length_drop]; omega)]
    conv => lhs; rw [← List.drop_zero (l := s.data.toList), List.drop_eq_getElem_cons (by omega)]
    rfl

theorem ba_three (s : ByteArray) (n : Nat) (h : s.size = n + 3) : ∃ (c a b : UInt8) (s8 : ByteArray), s[0] = c ∧ s.extract 1 3 = ⟨#[a, b]⟩ ∧ s.extract 3 (n + 3) = s8 ∧ s8.size = n ∧ s.data.toList = c :: a :: b :: s8.data.toList := by
  have hl : s.data.toList.length = n + 3 := by rw [Array.length_toList]; exact h
  refine ⟨_, s.data.toList[1], s.data.toList[2], _, rfl, ?_, rfl, ?_, ?_⟩
  · apply ByteArray.ext
    apply Array.toList_inj.1
    rw [Lib.extract_data, List.drop_eq_getElem_cons (by omega), List.drop_eq_getElem_cons (by omega)]
    rfl
  · rw [Lib.size_eq, Lib.extract_data, List.length_take]; simp; omega
  · rw [Lib.extract_data, List.take_of_length_le (by rw [List.length_drop]; omega)]
    conv => lhs; rw [← List.drop_zero (l := s.data.toList), List.drop_eq_getElem_cons (by omega), List.drop_eq_getElem_cons (by omega), List.drop_eq_getElem_cons (by omega)]
    rfl

theorem endsQ_snoc (x : List UInt8) (c d : UInt8) : endsQ (x ++ [c]) d = (c == d) := by simp [endsQ]
theorem endsQ_nil (d : UInt8) : endsQ [] d = false := by simp [endsQ]
theorem hasSuffix_one (l : List UInt8) (c : UInt8) : Lib.hasSuffix l [c] = endsQ l c := by
  rcases List.eq_nil_or_concat l with rfl | ⟨x, d, rfl⟩
  · simp [Lib.hasSuffix, endsQ]
  · rw [List.concat_eq_append, endsQ_snoc, Lib.hasSuffix, Bool.eq_iff_iff]
    simp only [List.isSuffixOf_iff_suffix, beq_iff_eq]
    constructor
    · rintro ⟨t, ht⟩
      have := congrArg List.getLast? ht
      simp at this
      exact this.symm
    · rintro rfl
      exact ⟨x, rfl⟩
theorem idx_blank (c : UInt8) : decide (0 ≤ Lib.indexByte [32, 9, 13] c) = blankQ c := by
  unfold blankQ
  by_cases h1 : c = 32
  · subst h1; decide
  · by_cases h2 : c = 9
    · subst h2; decide
    · by_cases h3 : c = 13
      · subst h3; decide
      · have e1 : ((32 : UInt8) == c) = false := by simp; exact fun e => h1 e.symm
        have e2 : ((9 : UInt8) == c) = false := by simp; exact fun e => h2 e.symm
        have e3 : ((13 : UInt8) == c) = false := by simp; exact fun e => h3 e.symm
        simp [Lib.indexByte, e1, e2, e3, h1, h2, h3]
end Go.Proofs.YtnjicfhmheaccaaDoor

/- Plain functions on lists of bytes: what reading printable signs gives; strings taken apart. No program. -/
import Derived.Lib.Split
import Derived.Lib.Strings
import Derived.Lib.Bytealg
import Derived.Test.YtlndhdimamnnlaaGreatDoorXmimewrapsupto1
import Derived.Test.YtlndhdimamnnlaaGreatDoorXmimewrapsupto2
namespace Go.Proofs.YtlndhdimamnnlaaGreatDoor

def hexl : List UInt8 := [48, 49, 50, 51, 52, 53, 54, 55, 56, 57, 65, 66, 67, 68, 69, 70, 97, 98, 99, 100, 101, 102]
def isHex (c : UInt8) : Bool := hexl.contains c
/-- The number of a hexadecimal digit. -/
def hexv (c : UInt8) : Nat := if c.toNat ≤ 57 then c.toNat - 48 else if c.toNat ≤ 70 then c.toNat - 55 else c.toNat - 87

def blankQ (c : UInt8) : Bool := c == 32 || c == 9 || c == 13
/-- Without blanks at the end. -/
def stripR (l : List UInt8) : List UInt8 := (l.reverse.dropWhile blankQ).reverse

theorem stripR_blank (x : List UInt8) (c : UInt8) (h : blankQ c = true) : stripR (x ++ [c]) = stripR x := by
  unfold stripR; rw [List.reverse_append, List.reverse_singleton, List.singleton_append, List.dropWhile_cons, if_pos h]
theorem stripR_other (x : List UInt8) (c : UInt8) (h : blankQ c = false) : stripR (x ++ [c]) = x ++ [c] := by
  unfold stripR; rw [List.reverse_append, List.reverse_singleton, List.singleton_append, List.dropWhile_cons, if_neg (by simp [h])]; simp

def decQ : List UInt8 → Option (List UInt8)
  | [] => some []
  | [c] => if c = 61 then none else some [c]
  | [c, d] => if c = 61 then none else (decQ [d]).map (c :: ·)
  | c :: a :: b :: t => if c = 61 then (if (isHex a && isHex b) = true then (decQ t).map (UInt8.ofNat (hexv a * 16 + hexv b) :: ·) else none) else (decQ (a :: b :: t)).map (c :: ·)

theorem decQ_plain (c : UInt8) (r : List UInt8) (h : c ≠ 61) : decQ (c :: r) = (decQ r).map (c :: ·) := by
  match r with
  | [] => simp [decQ, h]
  | [d] => simp [decQ, h]
  | a :: b :: t => rw [decQ, if_neg h]
theorem decQ_short (r : List UInt8) (h : r.length < 2) : decQ (61 :: r) = none := by
  match r, h with
  | [], _ => simp [decQ]
  | [d], _ => simp [decQ]
theorem decQ_hex (a b : UInt8) (t : List UInt8) (h : (isHex a && isHex b) = true) : decQ (61 :: a :: b :: t) = (decQ t).map (UInt8.ofNat (hexv a * 16 + hexv b) :: ·) := by
  rw [decQ, if_pos rfl, if_pos h]
theorem decQ_bad (a b : UInt8) (t : List UInt8) (h : (isHex a && isHex b) = false) : decQ (61 :: a :: b :: t) = none := by
  rw [decQ, if_pos rfl, if_neg (by simp [h])]

/-- Does l end with c? -/
def endsQ (l : List UInt8) (c : UInt8) : Bool := l.getLast? == some c
/-- A line's signs, and whether a line feed counts. -/
def lineQ (l : List UInt8) : List UInt8 × Bool :=
  if endsQ (stripR (if endsQ l 10 = true then l.dropLast else l)) 61 = true then ((stripR (if endsQ l 10 = true then l.dropLast else l)).dropLast, false)
  else (stripR (if endsQ l 10 = true then l.dropLast else l), endsQ l 10)

def linesQ : List (List UInt8) → List UInt8 → List UInt8 × Nat
  | [], out => (out, 0)
  | l :: r, out =>
    match decQ (lineQ l).1 with
    | none => ([], 1)
    | some d => if 4000 < (out ++ d ++ (if (lineQ l).2 = true then [13, 10] else [])).length then ([], 2) else linesQ r (out ++ d ++ (if (lineQ l).2 = true then [13, 10] else []))

/-- quote.Read: the bytes, and the error's number. -/
def readQ (s : List UInt8) : List UInt8 × Nat :=
  if 16000 < s.length then ([], 2) else linesQ (Lib.splitK [10] 1 (Lib.count s [10]) s) []

theorem splitK_le (sep : List UInt8) (sv : Nat) : ∀ (k : Nat) (s : List UInt8), ∀ x ∈ Lib.splitK sep sv k s, x.length ≤ s.length := by
  intro k
  induction k with
  | zero => intro s x hx; simp [Lib.splitK] at hx; subst hx; exact Nat.le_refl _
  | succ k ih =>
    intro s x hx
    rw [Lib.splitK] at hx
    split at hx
    · simp at hx; subst hx; exact Nat.le_refl _
    · rw [List.mem_cons] at hx
      rcases hx with rfl | hx
      · rw [List.length_take]; omega
      · have := ih _ x hx
        rw [List.length_drop] at this
        omega

theorem ba_snoc (s : ByteArray) (n : Nat) (h : s.size = n + 1) : ∃ (c : UInt8) (s8 : ByteArray), s.extract n (n + 1) = ⟨#[c]⟩ ∧ s.extract 0 n = s8 ∧ s8.size = n ∧ s.data.toList = s8.data.toList ++ [c] := by
  have hl : s.data.toList.length = n + 1 := by rw [Array.length_toList]; exact h
  refine ⟨s.data.toList[n], _, ?_, rfl, ?_, ?_⟩
  · apply ByteArray.ext
    apply Array.toList_inj.1
    rw [Lib.extract_data, show n + 1 - n = 1 from by omega, List.drop_eq_getElem_cons (by omega)]
    rfl
  · rw [Lib.size_eq, Lib.extract_data, List.length_take]; simp; omega
  · rw [Lib.extract_data, List.drop_zero, Nat.sub_zero]
    conv => lhs; rw [← List.take_append_drop n s.data.toList]
    rw [List.drop_eq_getElem_cons (by omega), List.drop_of_length_le (by omega)]

theorem ba_cons (s : ByteArray) (n : Nat) (h : s.size = n + 1) : ∃ (c : UInt8) (s8 : ByteArray), s[0] = c ∧ s.extract 1 (n + 1) = s8 ∧ s8.size = n ∧ s.data.toList = c :: s8.data.toList := by
  have hl : s.data.toList.length = n + 1 := by rw [Array.length_toList]; exact h
  refine ⟨_, _, rfl, rfl, ?_, ?_⟩
  · rw [Lib.size_eq, Lib.extract_data, List.length_take]; simp; omega
  · rw [Lib.extract_data, List.take_of_length_le (by rw [List.length_drop]; omega)]
    conv => lhs; rw [← List.drop_zero (l := s.data.toList), List.drop_eq_getElem_cons (by omega)]
    rfl

theorem ba_three (s : ByteArray) (n : Nat) (h : s.size = n + 3) : ∃ (c a b : UInt8) (s8 : ByteArray), s[0] = c ∧ s.extract 1 3 = ⟨#[a, b]⟩ ∧ s.extract 3 (n + 3) = s8 ∧ s8.size = n ∧ s.data.toList = c :: a :: b :: s8.data.toList := by
  have hl : s.data.toList.length = n + 3 := by rw [Array.length_toList]; exact h
  refine ⟨_, s.data.toList[1], s.data.toList[2], _, rfl, ?_, rfl, ?_, ?_⟩
  · apply ByteArray.ext
    apply Array.toList_inj.1
    rw [Lib.extract_data, List.drop_eq_getElem_cons (by omega), List.drop_eq_getElem_cons (by omega)]
    rfl
  · rw [Lib.size_eq, Lib.extract_data, List.length_take]; simp; omega
  · rw [Lib.extract_data, List.take_of_length_le (by rw [List.length_drop]; omega)]
    conv => lhs; rw [← List.drop_zero (l := s.data.toList), List.drop_eq_getElem_cons (by omega), List.drop_eq_getElem_cons (by omega), List.drop_eq_getElem_cons (by omega)]
    rfl

theorem endsQ_snoc (x : List UInt8) (c d : UInt8) : endsQ (x ++ [c]) d = (c == d) := by simp [endsQ]
theorem endsQ_nil (d : UInt8) : endsQ [] d = false := by simp [endsQ]
theorem hasSuffix_one (l : List UInt8) (c : UInt8) : Lib.hasSuffix l [c] = endsQ l c := by
  rcases List.eq_nil_or_concat l with rfl | ⟨x, d, rfl⟩
  · simp [Lib.hasSuffix, endsQ]
  · rw [List.concat_eq_append, endsQ_snoc, Lib.hasSuffix, Bool.eq_iff_iff]
    simp only [List.isSuffixOf_iff_suffix, beq_iff_eq]
    constructor
    · rintro ⟨t, ht⟩
      have := congrArg List.getLast? ht
      simp at this
      exact this.symm
    · rintro rfl
      exact ⟨x, rfl⟩
theorem idx_blank (c : UInt8) : decide (0 ≤ Lib.indexByte [32, 9, 13] c) = blankQ c := by
  unfold blankQ
  by_cases h1 : c = 32
  · subst h1; decide
  · by_cases h2 : c = 9
    · subst h2; decide
    · by_cases h3 : c = 13
      · subst h3; decide
      · have e1 : ((32 : UInt8) == c) = false := by simp; exact fun e => h1 e.symm
        have e2 : ((9 : UInt8) == c) = false := by simp; exact fun e => h2 e.symm
        have e3 : ((13 : UInt8) == c) = false := by simp; exact fun e => h3 e.symm
        simp [Lib.indexByte, e1, e2, e3, h1, h2, h3]
end Go.Proofs.YtlndhdimamnnlaaGreatDoor

/- Plain functions on lists of bytes: the letters of some bytes, in lines. No program. -/
namespace Go.Proofs.YtlndhdimamnnlaaGreatDoor

/-- The 64 letters. -/
def abc : List UInt8 := [65, 66, 67, 68, 69, 70, 71, 72, 73, 74, 75, 76, 77, 78, 79, 80, 81, 82, 83, 84, 85, 86, 87, 88, 89, 90, 97, 98, 99, 100, 101, 102, 103, 104, 105, 106, 107, 108, 109, 110, 111, 112, 113, 114, 115, 116, 117, 118, 119, 120, 121, 122, 48, 49, 50, 51, 52, 53, 54, 55, 56, 57, 43, 47]

/-- Up to three bytes as one number of 24 bits. -/
def val3 (T : List UInt8) : Nat := (T.getD 0 0).toNat * 65536 + (T.getD 1 0).toNat * 256 + (T.getD 2 0).toNat

/-- The k-th letter of up to three bytes. -/
def letT (T : List UInt8) (k : Nat) : UInt8 := if 8 * T.length ≤ 6 * k then 61 else abc.getD (val3 T / 2 ^ (18 - 6 * k) % 64) 0

/-- The three bytes (or fewer) from which the i-th letter comes. -/
def trio (L : List UInt8) (i : Nat) : List UInt8 := (L.drop (i / 4 * 3)).take 3

/-- The i-th letter. -/
def encAt (L : List UInt8) (i : Nat) : UInt8 := letT (trio L i) (i % 4)

/-- What stands ahead of the i-th letter. -/
def sepAt (i : Nat) : List UInt8 := if 0 < i ∧ i % 76 = 0 then [13, 10] else []

/-- The first m letters. -/
def text (L : List UInt8) : Nat → List UInt8
  | 0 => []
  | m + 1 => text L m ++ (sepAt m ++ [encAt L m])

/-- All letters. -/
def encode (L : List UInt8) : List UInt8 := text L ((L.length + 2) / 3 * 4)

theorem text_length (L : List UInt8) (m : Nat) : (text L m).length ≤ 3 * m := by
  induction m with
  | zero => simp [text]
  | succ m ih =>
    have : (sepAt m).length ≤ 2 := by unfold sepAt; split <;> simp
    simp [text]; omega

theorem abc_lt (S : Nat) (h : S < 64) : ∃ h' : S < abc.length, abc.getD S 0 = abc[S] := by
  have : abc.length = 64 := rfl
  exact ⟨by omega, by simp [List.getD_eq_getElem?_getD, List.getElem?_eq_getElem (show S < abc.length by omega)]⟩

theorem encode_length (L : List UInt8) : (encode L).length ≤ 4 * L.length + 8 := by
  have := text_length L ((L.length + 2) / 3 * 4)
  unfold encode
  omega

theorem text_length_ge (L : List UInt8) (m : Nat) : m ≤ (text L m).length := by
  induction m with
  | zero => simp
  | succ m ih => simp [text]; omega

theorem text_plain (L : List UInt8) (k : Nat) (h : ¬ (0 < k ∧ k % 76 = 0)) : text L (k + 1) = text L k ++ [encAt L k] := by
  rw [text, sepAt, if_neg h]; rfl
theorem text_sep (L : List UInt8) (k : Nat) (h : 0 < k ∧ k % 76 = 0) : text L (k + 1) = text L k ++ [13, 10] ++ [encAt L k] := by
  rw [text, sepAt, if_pos h]; simp
theorem trio_getD (L : List UInt8) (k i : Nat) (h : i < 3) : (trio L k).getD i 0 = L.getD (k / 4 * 3 + i) 0 := by
  simp [trio, List.getD_eq_getElem?_getD, h]

theorem val3_lt (T : List UInt8) : val3 T < 16777216 := by
  unfold val3
  have h0 := (T.getD 0 0).toNat_lt
  have h1 := (T.getD 1 0).toNat_lt
  have h2 := (T.getD 2 0).toNat_lt
  omega

/-! Parts: where a whole line of bytes stands ahead. -/
theorem text_add (L M : List UInt8) (j : Nat) (hM : M = L.drop (57 * j)) (m : Nat) (hm : 0 < m) :
    text L (76 * j + m) = text L (76 * j) ++ ((if 0 < j then [13, 10] else []) ++ text M m) := by
  have he : ∀ i, encAt L (76 * j + i) = encAt M i := by
    intro i
    unfold encAt trio
    subst hM
    rw [List.drop_drop]
    have e1 : (76 * j + i) / 4 * 3 = 57 * j + i / 4 * 3 := by omega
    have e2 : (76 * j + i) % 4 = i % 4 := by omega
    rw [e1, e2]
  induction m with
  | zero => omega
  | succ m ih =>
    rw [show 76 * j + (m + 1) = (76 * j + m) + 1 from by omega, text, text, he]
    by_cases h0 : m = 0
    · subst h0
      have s0 : sepAt 0 = [] := rfl
      have sj : sepAt (76 * j + 0) = if 0 < j then [13, 10] else [] := by
        unfold sepAt
        by_cases hj0 : 0 < j
        · rw [if_pos ⟨by omega, by omega⟩, if_pos hj0]
        · rw [if_neg (by omega), if_neg hj0]
      rw [sj, s0]
      simp [text]
    · have sm : sepAt (76 * j + m) = sepAt m := by
        unfold sepAt
        have : (0 < 76 * j + m ∧ (76 * j + m) % 76 = 0) ↔ (0 < m ∧ m % 76 = 0) := by omega
        simp only [this]
      rw [ih (by omega), sm]
      simp

theorem text_take (L : List UInt8) (j : Nat) (m : Nat) (hm : m ≤ 76 * j) : text (L.take (57 * j)) m = text L m := by
  induction m with
  | zero => rfl
  | succ m ih =>
    have he : encAt (L.take (57 * j)) m = encAt L m := by
      unfold encAt trio
      rw [List.drop_take, List.take_take]
      have : min 3 (57 * j - m / 4 * 3) = 3 := by omega
      rw [this]
    rw [text, text, ih (by omega), he]

/-- BaseParts, in plain words. -/
theorem encode_parts (L : List UInt8) (j : Nat) (hj : 57 * j < L.length) :
    encode L = encode (L.take (57 * j)) ++ ((if 0 < j then [13, 10] else []) ++ encode (L.drop (57 * j))) := by
  unfold encode
  have h1 : (List.take (57 * j) L).length = 57 * j := by simp; omega
  have h2 : (List.drop (57 * j) L).length = L.length - 57 * j := by simp
  rw [h1, h2]
  have e1 : (57 * j + 2) / 3 * 4 = 76 * j := by omega
  have e2 : (L.length + 2) / 3 * 4 = 76 * j + (L.length - 57 * j + 2) / 3 * 4 := by omega
  rw [e1, e2, text_add L _ j rfl _ (by omega), text_take L j _ (Nat.le_refl _)]
end Go.Proofs.YtlndhdimamnnlaaGreatDoor

/- Plain functions on lists of bytes: what reading letters gives. No program. -/
namespace Go.Proofs.YtlndhdimamnnlaaGreatDoor

def sp (c : UInt8) : Bool := c == 32 || c == 9 || c == 13 || c == 10

/-- One sign more: the numbers so far, and how many '='. -/
def scanStep (st : List UInt8 × Nat) (c : UInt8) : Option (List UInt8 × Nat) :=
  if sp c = true then some st else if c = 61 then some (st.1 ++ [0], st.2 + 1)
  else if Lib.indexByte abc c < 0 ∨ 0 < st.2 then none else some (st.1 ++ [UInt8.ofNat (Lib.indexByte abc c).toNat], st.2)

def scan : List UInt8 → List UInt8 × Nat → Option (List UInt8 × Nat)
  | [], st => some st
  | c :: r, st => (scanStep st c).bind (scan r)

def digitsS (l : List UInt8) : Option (List UInt8 × Nat) :=
  (scan l ([], 0)).bind fun st => if 2 < st.2 ∨ st.1.length % 4 ≠ 0 then none else some st

/-- The number of four letters. -/
def quad (x : List UInt8) (i : Nat) : Nat :=
  (((x.getD (4 * i) 0).toNat * 64 + (x.getD (4 * i + 1) 0).toNat) * 64 + (x.getD (4 * i + 2) 0).toNat) * 64 + (x.getD (4 * i + 3) 0).toNat

def bytes3 (v : Nat) : List UInt8 := [UInt8.ofNat (v / 65536 % 256), UInt8.ofNat (v / 256 % 256), UInt8.ofNat (v % 256)]

def joinTo (x : List UInt8) : Nat → List UInt8
  | 0 => []
  | m + 1 => joinTo x m ++ bytes3 (quad x m)

def joinS (x : List UInt8) : List UInt8 := joinTo x (x.length / 4)

theorem joinTo_length (x : List UInt8) (m : Nat) : (joinTo x m).length = 3 * m := by
  induction m with
  | zero => rfl
  | succ m ih => simp [joinTo, bytes3, ih]; omega

/-- The bytes without the last n, which must be 0. -/
def cutS (b : List UInt8) (n : Nat) : Option (List UInt8) :=
  if (b.drop (b.length - n)).all (· == 0) = true then some (b.take (b.length - n)) else none

/-- base.Read: the bytes, and the error's number. -/
def readS (l : List UInt8) : List UInt8 × Nat :=
  if 8000 < l.length then ([], 2) else
  match digitsS l with
  | none => ([], 1)
  | some (x, f) =>
    match cutS (joinS x) f with
    | none => ([], 1)
    | some b => if 4000 < b.length then ([], 2) else (b, 0)

theorem indexByte_lt (l : List UInt8) (c : UInt8) : Lib.indexByte l c < (l.length : Int) := by
  induction l with
  | nil => simp [Lib.indexByte]
  | cons b l ih =>
    simp only [Lib.indexByte, List.length_cons]
    split
    · omega
    · split
      · omega
      · omega
theorem idx_lt (c : UInt8) : Lib.indexByte abc c < 64 := indexByte_lt abc c
theorem idx_ge (c : UInt8) : -1 ≤ Lib.indexByte abc c := Lib.indexByte_ge abc c

/-- The numbers are of six bits; there are as many signs at least. -/
theorem scan_bounds (l : List UInt8) : ∀ st x f, scan l st = some (x, f) → (∀ c ∈ st.1, c.toNat < 64) → st.2 ≤ st.1.length → (∀ c ∈ x, c.toNat < 64) ∧ f ≤ x.length ∧ x.length ≤ st.1.length + l.length := by
  induction l with
  | nil =>
    intro st x f h hs hf
    simp [scan] at h
    subst h
    exact ⟨hs, hf, by simp⟩
  | cons c r ih =>
    intro st x f h hs hf
    simp only [scan, Option.bind_eq_some_iff] at h
    obtain ⟨st', h1, h2⟩ := h
    have key : (∀ c ∈ st'.1, c.toNat < 64) ∧ st'.2 ≤ st'.1.length ∧ st'.1.length ≤ st.1.length + 1 := by
      unfold scanStep at h1
      by_cases h' : sp c = true
      · rw [if_pos h'] at h1
        cases h1
        exact ⟨hs, hf, by omega⟩
      · rw [if_neg h'] at h1
        by_cases h'' : c = 61
        · rw [if_pos h''] at h1
          cases h1
          refine ⟨?_, by simp; omega, by simp⟩
          intro d hd
          simp at hd
          rcases hd with hd | rfl
          · exact hs d hd
          · decide
        · rw [if_neg h''] at h1
          by_cases h3 : Lib.indexByte abc c < 0 ∨ 0 < st.2
          · rw [if_pos h3] at h1; cases h1
          · rw [if_neg h3] at h1
            cases h1
            refine ⟨?_, by simp; omega, by simp⟩
            intro d hd
            simp at hd
            rcases hd with hd | rfl
            · exact hs d hd
            · have := idx_lt c
              simp
              omega
    have := ih st' x f h2 key.1 key.2.1
    exact ⟨this.1, this.2.1, by simp; omega⟩
end Go.Proofs.YtlndhdimamnnlaaGreatDoor

/- Plain functions: what a text of a bundle is read as. No program. -/
namespace Go.Proofs.YtlndhdimamnnlaaGreatDoor

def nmType : List UInt8 := [67, 111, 110, 116, 101, 110, 116, 45, 84, 121, 112, 101]
def nmID : List UInt8 := [67, 111, 110, 116, 101, 110, 116, 45, 73, 68]
def nmLoc : List UInt8 := [67, 111, 110, 116, 101, 110, 116, 45, 76, 111, 99, 97, 116, 105, 111, 110]
def nmHow : List UInt8 := [67, 111, 110, 116, 101, 110, 116, 45, 84, 114, 97, 110, 115, 102, 101, 114, 45, 69, 110, 99, 111, 100, 105, 110, 103]
def nmBound : List UInt8 := [98, 111, 117, 110, 100, 97, 114, 121]
def nmChar : List UInt8 := [99, 104, 97, 114, 115, 101, 116]
def txPlain : List UInt8 := [116, 101, 120, 116, 47, 112, 108, 97, 105, 110]
def how0 : List UInt8 := [56, 98, 105, 116]
def how1 : List UInt8 := [98, 97, 115, 101, 54, 52]
def how2 : List UInt8 := [113, 117, 111, 116, 101, 100, 45, 112, 114, 105, 110, 116, 97, 98, 108, 101]
def bit7 : List UInt8 := [55, 98, 105, 116]
def binS : List UInt8 := [98, 105, 110, 97, 114, 121]

/-- What stands between < and >, if both are there. -/
def bareI (l : List UInt8) : List UInt8 := if l.head? = some 60 ∧ l.getLast? = some 62 then (l.drop 1).dropLast else l
/-- The first of that name, large or small letters alike. -/
def getN (nm : List UInt8) (fs : List Fld) : List UInt8 := match fs.find? (fun f => eqF f.1 nm) with | none => [] | some f => f.2
/-- How a body is written, by what is said of it (small letters). -/
def howOf (s : List UInt8) : Option Nat := if s = [] ∨ s = bit7 ∨ s = how0 ∨ s = binS then some 0 else if s = how1 then some 1 else if s = how2 then some 2 else none
def decP (said b : List UInt8) : Nat × List UInt8 × Nat := match howOf (Lib.toLowerD said) with
  | none => (0, [], 4)
  | some 0 => if 4000 < b.length then (0, [], 2) else (0, b, 0)
  | some 1 => (1, (readS b).1, (readS b).2)
  | some _ => (2, (readQ b).1, (readQ b).2)
end Go.Proofs.YtlndhdimamnnlaaGreatDoor

/- Plain functions on lists of bytes: what reading letters gives. No program. -/
import Derived.Test.YtdeggdmmipkfeaaDoorPlain
namespace Go.Proofs.YtdeggdmmipkfeaaDoor

def sp (c : UInt8) : Bool := c == 32 || c == 9 || c == 13 || c == 10

/-- One sign more: the numbers so far, and how many '='. -/
def scanStep (st : List UInt8 × Nat) (c : UInt8) : Option (List UInt8 × Nat) :=
  if sp c = true then some st else if c = 61 then some (st.1 ++ [0], st.2 + 1)
  else if Lib.indexByte abc c < 0 ∨ 0 < st.2 then none else some (st.1 ++ [UInt8.ofNat (Lib.indexByte abc c).toNat], st.2)

def scan : List UInt8 → List UInt8 × Nat → Option (List UInt8 × Nat)
  | [], st => some st
  | c :: r, st => (scanStep st c).bind (scan r)

def digitsS (l : List UInt8) : Option (List UInt8 × Nat) :=
  (scan l ([], 0)).bind fun st => if 2 < st.2 ∨ st.1.length % 4 ≠ 0 then none else some st

/-- The number of four letters. -/
def quad (x : List UInt8) (i : Nat) : Nat :=
  (((x.getD (4 * i) 0).toNat * 64 + (x.getD (4 * i + 1) 0).toNat) * 64 + (x.getD (4 * i + 2) 0).toNat) * 64 + (x.getD (4 * i + 3) 0).toNat

def bytes3 (v : Nat) : List UInt8 := [UInt8.ofNat (v / 65536 % 256), UInt8.ofNat (v / 256 % 256), UInt8.ofNat (v % 256)]

def joinTo (x : List UInt8) : Nat → List UInt8
  | 0 => []
  | m + 1 => joinTo x m ++ bytes3 (quad x m)

def joinS (x : List UInt8) : List UInt8 := joinTo x (x.length / 4)

theorem joinTo_length (x : List UInt8) (m : Nat) : (joinTo x m).length = 3 * m := by
  induction m with
  | zero => rfl
  | succ m ih => simp [joinTo, bytes3, ih]; omega

/-- The bytes without the last n, which must be 0. -/
def cutS (b : List UInt8) (n : Nat) : Option (List UInt8) :=
  if (b.drop (b.length - n)).all (· == 0) = true then some (b.take (b.length - n)) else none

/-- base.Read: the bytes, and the error's number. -/
def readS (l : List UInt8) : List UInt8 × Nat :=
  if 8000 < l.length then ([], 2) else
  match digitsS l with
  | none => ([], 1)
  | some (x, f) =>
    match cutS (joinS x) f with
    | none => ([], 1)
    | some b => if 4000 < b.length then ([], 2) else (b, 0)

theorem indexByte_lt (l : List UInt8) (c : UInt8) : Lib.indexByte l c < (l.length : Int) := by
  induction l with
  | nil => simp [Lib.indexByte]
  | cons b l ih =>
    simp only [Lib.indexByte, List.length_cons]
    split
    · omega
    · split
      · omega
      · omega
theorem idx_lt (c : UInt8) : Lib.indexByte abc c < 64 := indexByte_lt abc c
theorem idx_ge (c : UInt8) : -1 ≤ Lib.indexByte abc c := Lib.indexByte_ge abc c

/-- The numbers are of six bits; there are as many signs at least. -/
theorem scan_bounds (l : List UInt8) : ∀ st x f, scan l st = some (x, f) → (∀ c ∈ st.1, c.toNat < 64) → st.2 ≤ st.1.length → (∀ c ∈ x, c.toNat < 64) ∧ f ≤ x.length ∧ x.length ≤ st.1.length + l.length := by
  induction l with
  | nil =>
    intro st x f h hs hf
    simp [scan] at h
    subst h
    exact ⟨hs, hf, by simp⟩
  | cons c r ih =>
    intro st x f h hs hf
    simp only [scan, Option.bind_eq_some_iff] at h
    obtain ⟨st', h1, h2⟩ := h
    have key : (∀ c ∈ st'.1, c.toNat < 64) ∧ st'.2 ≤ st'.1.length ∧ st'.1.length ≤ st.1.length + 1 := by
      unfold scanStep at h1
      by_cases h' : sp c = true
      · rw [if_pos h'] at h1
        cases h1
        exact ⟨hs, hf, by omega⟩
      · rw [if_neg h'] at h1
        by_cases h'' : c = 61
        · rw [if_pos h''] at h1
          cases h1
          refine ⟨?_, by simp; omega, by simp⟩
          intro d hd
          simp at hd
          rcases hd with hd | rfl
          · exact hs d hd
          · decide
        · rw [if_neg h''] at h1
          by_cases h3 : Lib.indexByte abc c < 0 ∨ 0 < st.2
          · rw [if_pos h3] at h1; cases h1
          · rw [if_neg h3] at h1
            cases h1
            refine ⟨?_, by simp; omega, by simp⟩
            intro d hd
            simp at hd
            rcases hd with hd | rfl
            · exact hs d hd
            · have := idx_lt c
              simp
              omega
    have := ih st' x f h2 key.1 key.2.1
    exact ⟨this.1, this.2.1, by simp; omega⟩
end Go.Proofs.YtdeggdmmipkfeaaDoor

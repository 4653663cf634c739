/- Plain functions on lists of bytes: bytes written as printable signs, in lines. No program. -/
import Derived.Lib.Case
namespace Go.Proofs.YtnlnjjcfpbmpmaaDoor

/-- The digit of a number below 16, with large letters. -/
def upHex (u : Nat) : UInt8 := if u < 10 then UInt8.ofNat (48 + u) else UInt8.ofNat (55 + u)
/-- From 33 to 126, but '='. -/
def plainQ (c : UInt8) : Bool := decide (33 ≤ c.toNat ∧ c.toNat ≤ 126 ∧ c.toNat ≠ 61)
/-- How a byte is written. -/
def q1 (c : UInt8) : List UInt8 := if plainQ c = true then [c] else [61, upHex (c.toNat / 16), upHex (c.toNat % 16)]
/-- One byte more: what stands on whole lines, and the last line. -/
def qstep (st : List UInt8 × List UInt8) (c : UInt8) : List UInt8 × List UInt8 :=
  if 75 < st.2.length + (q1 c).length then (st.1 ++ st.2 ++ [61, 13, 10], q1 c) else (st.1, st.2 ++ q1 c)
def qst (L : List UInt8) : Nat → List UInt8 × List UInt8
  | 0 => ([], [])
  | k + 1 => qstep (qst L k) (L.getD k 0)
def encQ (L : List UInt8) : List UInt8 := (qst L L.length).1 ++ (qst L L.length).2

theorem q1_length (c : UInt8) : 1 ≤ (q1 c).length ∧ (q1 c).length ≤ 3 := by unfold q1; split <;> simp
theorem qst_length (L : List UInt8) (k : Nat) : (qst L k).1.length + (qst L k).2.length ≤ 6 * k ∧ (qst L k).2.length ≤ 75 := by
  induction k with
  | zero => simp [qst]
  | succ k ih =>
    rw [qst, qstep]
    generalize L.getD k 0 = c
    have := q1_length c
    split
    · simp; omega
    · simp; omega
end Go.Proofs.YtnlnjjcfpbmpmaaDoor

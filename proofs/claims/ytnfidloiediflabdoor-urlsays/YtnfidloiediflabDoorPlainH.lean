/- Plain functions on lists of bytes: tokens, values, fields and how they are printed. No program. -/
import Derived.Lib.Strings
import Derived.Lib.Bytealg
namespace Go.Proofs.YtnfidloiediflabDoor

def specials : List UInt8 := [40, 41, 60, 62, 64, 44, 59, 58, 92, 34, 47, 91, 93, 63, 61]
/-- From one to another one, and none of some. -/
def inB (lo hi : Nat) (but : List UInt8) (c : UInt8) : Bool := decide (lo ≤ c.toNat) && decide (c.toNat ≤ hi) && !but.contains c
def betw (lo hi : Nat) (but l : List UInt8) : Bool := l.all (inB lo hi but)
theorem betw_nil (lo hi : Nat) (but : List UInt8) : betw lo hi but [] = true := rfl
theorem betw_cons (lo hi : Nat) (but : List UInt8) (c : UInt8) (l : List UInt8) : betw lo hi but (c :: l) = (inB lo hi but c && betw lo hi but l) := rfl
def tokenS (l : List UInt8) : Bool := decide (1 ≤ l.length) && decide (l.length ≤ 30) && betw 33 126 specials l
def valueS (l : List UInt8) : Bool := decide (l.length ≤ 900) && betw 32 126 [] l && !(l.head? == some 32) && !(l.getLast? == some 32)
abbrev Fld := List UInt8 × List UInt8
def okF (f : Fld) : Bool := tokenS f.1 && valueS f.2
def checkF (fs : List Fld) : Nat := if 20 < fs.length then 2 else if fs.all okF = true then 0 else 1
def lineF (f : Fld) : List UInt8 := f.1 ++ [58, 32] ++ f.2 ++ [13, 10]
def textF (fs : List Fld) : List UInt8 := fs.flatMap lineF ++ [13, 10]

theorem indexByte_mem (l : List UInt8) (c : UInt8) : decide (0 ≤ Lib.indexByte l c) = l.contains c := by
  induction l with
  | nil => rfl
  | cons b l ih =>
    rw [Lib.indexByte]
    by_cases h : b = c
    · subst h; simp
    · have h2 : (c == b) = false := by rw [beq_eq_false_iff_ne]; exact fun e => h e.symm
      rw [if_neg (by simpa using h), List.contains_cons, h2, Bool.false_or, ← ih]
      by_cases h1 : Lib.indexByte l c = -1
      · rw [h1]; rfl
      · rw [if_neg (by simpa using h1)]
        have : -1 ≤ Lib.indexByte l c := by
          clear ih h h2 h1
          induction l with
          | nil => simp [Lib.indexByte]
          | cons b l ih => rw [Lib.indexByte]; split; · omega
                           · split; · omega
                             · omega
        by_cases h0 : 0 ≤ Lib.indexByte l c
        · simp [h0]; omega
        · omega
end Go.Proofs.YtnfidloiediflabDoor

/- Plain functions on lists of bytes: a value taken apart. No program. -/
import Derived.Test.YtnfidloiediflabDoorPlainP
import Derived.Lib.Case
namespace Go.Proofs.YtnfidloiediflabDoor

/-- Ahead of the first d, and behind it; all, where there is none. -/
def cutP (d : UInt8) (l : List UInt8) : List UInt8 × List UInt8 × Bool := match cutB d l with | none => (l, [], false) | some x => (x.1, x.2, true)
theorem cutP_none {d : UInt8} {l : List UInt8} (h : cutB d l = none) : cutP d l = (l, [], false) := by rw [cutP, h]
theorem cutP_some {d : UInt8} {l a b : List UInt8} (h : cutB d l = some (a, b)) : cutP d l = (a, b, true) := by rw [cutP, h]
theorem cutP_length (d : UInt8) (l : List UInt8) : (cutP d l).1.length ≤ l.length ∧ (cutP d l).2.1.length ≤ l.length ∧ ((cutP d l).2.2 = true → (cutP d l).1.length + (cutP d l).2.1.length + 1 = l.length) := by
  cases h : cutB d l with
  | none => rw [cutP_none h]; simp
  | some x =>
    obtain ⟨a, b⟩ := x
    rw [cutP_some h]
    have := congrArg List.length (cutB_some d l a b h).1
    simp at this ⊢
    omega
theorem cutP_mem (d : UInt8) (l : List UInt8) (c : UInt8) : (c ∈ (cutP d l).1 → c ∈ l) ∧ (c ∈ (cutP d l).2.1 → c ∈ l) := by
  cases h : cutB d l with
  | none => rw [cutP_none h]; simp
  | some x =>
    obtain ⟨a, b⟩ := x
    rw [cutP_some h]
    have := (cutB_some d l a b h).1
    rw [this]
    simp
    constructor
    · intro h; exact .inl h
    · intro h; exact .inr (.inr h)

def small8 (l : List UInt8) : List UInt8 := Lib.toLowerA l
/-- What is set: the value, what stands behind the next ;, whether there is one, whether it is written so. -/
def setS (l : List UInt8) : List UInt8 × List UInt8 × Bool × Bool :=
  if l.head? = some 34 then
    ((cutP 34 l.tail).1, (cutP 59 (cutP 34 l.tail).2.1).2.1, (cutP 59 (cutP 34 l.tail).2.1).2.2, (cutP 34 l.tail).2.2 && (trimBy isSp (cutP 59 (cutP 34 l.tail).2.1).1).isEmpty)
  else
    (dropEnd isSp (cutP 59 l).1, (cutP 59 l).2.1, (cutP 59 l).2.2, tokenS (dropEnd isSp (cutP 59 l).1))
/-- The name that is ahead of the =. -/
def nameS (l : List UInt8) : List UInt8 := trimBy isSp (cutP 61 l).1
def restS (l : List UInt8) : List UInt8 × List UInt8 × Bool × Bool := setS ((cutP 61 l).2.1.dropWhile isSp)
def nameOk (l : List UInt8) : Bool := (cutP 61 l).2.2 && tokenS (nameS l)
def paramOk (l : List UInt8) : Bool := nameOk l && (restS l).2.2.2
def paramFld (l : List UInt8) : Fld := (small8 (nameS l), (restS l).1)

def paramsGo : Nat → List UInt8 → Bool → List Fld → Except Nat (List Fld)
  | 0, _, _, _ => .error 1
  | g + 1, r, more, fs =>
    if more = true then
      if paramOk r = true then (if 20 < fs.length + 1 then .error 2 else paramsGo g (restS r).2.1 (restS r).2.2.1 (fs ++ [paramFld r])) else .error 1
    else .ok fs
def outP (m : List UInt8) : Except Nat (List Fld) → List UInt8 × List Fld × Nat
  | .error e => ([], [], e)
  | .ok fs => (m, fs, 0)
def paramsF (s : List UInt8) : List UInt8 × List Fld × Nat :=
  if valueS s = true then outP (small8 (trimBy isSp (cutP 59 s).1)) (paramsGo (s.length + 1) (cutP 59 s).2.1 (cutP 59 s).2.2 []) else ([], [], 1)

theorem mem_dropEnd {p : UInt8 → Bool} {l : List UInt8} {c : UInt8} (h : c ∈ dropEnd p l) : c ∈ l := by
  unfold dropEnd at h
  rw [List.mem_reverse] at h
  have := (List.dropWhile_sublist p).subset h
  simpa using this
theorem mem_trimBy {p : UInt8 → Bool} {l : List UInt8} {c : UInt8} (h : c ∈ trimBy p l) : c ∈ l := mem_dropEnd ((List.dropWhile_sublist p).subset h)

theorem setS_length (l : List UInt8) : (setS l).1.length ≤ l.length ∧ (setS l).2.1.length ≤ l.length := by
  unfold setS
  split
  · have h1 := cutP_length 34 l.tail
    have h2 := cutP_length 59 (cutP 34 l.tail).2.1
    have h3 : l.tail.length ≤ l.length := by rw [List.length_tail]; omega
    simp only
    omega
  · have h1 := cutP_length 59 l
    have h2 := dropEnd_length isSp (cutP 59 l).1
    simp only
    omega
theorem restS_length (l : List UInt8) (h : nameOk l = true) : (restS l).1.length < l.length ∧ (restS l).2.1.length < l.length := by
  have h0 : (cutP 61 l).2.2 = true := by rw [nameOk, Bool.and_eq_true] at h; exact h.1
  have h1 := (cutP_length 61 l).2.2 h0
  have h2 := setS_length ((cutP 61 l).2.1.dropWhile isSp)
  have h3 := (List.dropWhile_sublist isSp (l := (cutP 61 l).2.1)).length_le
  unfold restS
  omega
end Go.Proofs.YtnfidloiediflabDoor

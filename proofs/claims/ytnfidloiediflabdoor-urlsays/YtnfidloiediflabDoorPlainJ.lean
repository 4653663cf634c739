/- Plain facts: pieces joined by a mark are split at it, and it can be left out. No program. -/
import Derived.Lib.Strings
import Derived.Lib.Bytealg
import Derived.Lib.Replace
namespace Go.Proofs.YtnfidloiediflabDoor

theorem index_sep_none (d : UInt8) (s a : List UInt8) (h : ∀ c ∈ a, c ≠ d) : Lib.index a (d :: s) = -1 := by
  induction a with
  | nil => rfl
  | cons c a ih =>
    have hc : (d == c) = false := by simp; exact fun e => h c (by simp) e.symm
    have := ih (fun e he => h e (by simp [he]))
    simp [Lib.index, List.isPrefixOf, hc, this]
theorem prefix_self (s r : List UInt8) : s.isPrefixOf (s ++ r) = true := by
  rw [List.isPrefixOf_iff_prefix]; exact List.prefix_append s r
theorem index_sep (d : UInt8) (s a r : List UInt8) (h : ∀ c ∈ a, c ≠ d) : Lib.index (a ++ ((d :: s) ++ r)) (d :: s) = (a.length : Int) := by
  induction a with
  | nil =>
    have := prefix_self (d :: s) r
    rw [List.cons_append] at this
    rw [List.nil_append, List.cons_append, Lib.index, if_pos this]
    rfl
  | cons c a ih =>
    have hc : (d == c) = false := by simp; exact fun e => h c (by simp) e.symm
    have hi := ih (fun e he => h e (by simp [he]))
    rw [List.cons_append, Lib.index]
    have hp : (d :: s).isPrefixOf (c :: (a ++ ((d :: s) ++ r))) = false := by simp [List.isPrefixOf, hc]
    rw [hp, hi]
    simp only [Bool.false_eq_true, if_false]
    rw [if_neg (by simp)]
    simp
theorem drop_sep (s a r : List UInt8) : (a ++ (s ++ r)).drop (a.length + s.length) = r := by
  rw [show a.length + s.length = (a ++ s).length from by simp, ← List.append_assoc, List.drop_left]
theorem count_sep (d : UInt8) (s a r : List UInt8) (h : ∀ c ∈ a, c ≠ d) : Lib.count (a ++ ((d :: s) ++ r)) (d :: s) = Lib.count r (d :: s) + 1 := by
  rw [Lib.count_hit (by simp) (index_sep d s a r h), drop_sep, Nat.add_comm]

/-- Pieces, with a mark between. -/
def joinG (s : List UInt8) : List UInt8 → List (List UInt8) → List UInt8
  | a, [] => a
  | a, b :: t => a ++ (s ++ joinG s b t)

theorem split_join (d : UInt8) (s : List UInt8) : ∀ (t : List (List UInt8)) (a : List UInt8), (∀ x ∈ a :: t, ∀ c ∈ x, c ≠ d) →
    Lib.splitK (d :: s) 0 (Lib.count (joinG (d :: s) a t) (d :: s)) (joinG (d :: s) a t) = a :: t := by
  intro t
  induction t with
  | nil => intro a h; rw [joinG, Lib.count_miss (index_sep_none d s a (h a (by simp)))]; rfl
  | cons b t ih =>
    intro a h
    have ha := h a (by simp)
    rw [joinG, count_sep d s a _ ha, Lib.splitK, index_sep d s a _ ha, if_neg (by simp), Int.toNat_natCast, drop_sep, ih b (fun x hx => h x (by simp at hx ⊢; right; exact hx)), Nat.add_zero, List.take_left]
theorem replace_join (d : UInt8) (s n : List UInt8) : ∀ (t : List (List UInt8)) (a : List UInt8), (∀ x ∈ a :: t, ∀ c ∈ x, c ≠ d) →
    Lib.replaceK (d :: s) n (Lib.count (joinG (d :: s) a t) (d :: s)) (joinG (d :: s) a t) = joinG n a t := by
  intro t
  induction t with
  | nil => intro a h; rw [joinG, Lib.count_miss (index_sep_none d s a (h a (by simp)))]; rfl
  | cons b t ih =>
    intro a h
    have ha := h a (by simp)
    rw [joinG, count_sep d s a _ ha, Lib.replaceK_hit _ _ _ _ a.length (index_sep d s a _ ha), drop_sep, ih b (fun x hx => h x (by simp at hx ⊢; right; exact hx)), List.take_left, joinG]
    simp
theorem joinG_nil : ∀ (t : List (List UInt8)) (a : List UInt8), joinG [] a t = (a :: t).flatten := by
  intro t
  induction t with
  | nil => intro a; simp [joinG]
  | cons b t ih => intro a; rw [joinG, ih b]; simp

end Go.Proofs.YtnfidloiediflabDoor

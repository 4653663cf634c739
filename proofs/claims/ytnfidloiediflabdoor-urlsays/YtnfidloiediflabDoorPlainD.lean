/- Plain functions on lists of bytes: what stands without some bytes at its ends. No program. -/
import Derived.Lib.Strings
namespace Go.Proofs.YtnfidloiediflabDoor

/-- Without what p says at the end. -/
def dropEnd (p : UInt8 → Bool) (l : List UInt8) : List UInt8 := (l.reverse.dropWhile p).reverse
def trimBy (p : UInt8 → Bool) (l : List UInt8) : List UInt8 := (dropEnd p l).dropWhile p
theorem dropEnd_yes (p : UInt8 → Bool) (x : List UInt8) (c : UInt8) (h : p c = true) : dropEnd p (x ++ [c]) = dropEnd p x := by
  unfold dropEnd; rw [List.reverse_append, List.reverse_singleton, List.singleton_append, List.dropWhile_cons, if_pos h]
theorem dropEnd_no (p : UInt8 → Bool) (x : List UInt8) (c : UInt8) (h : p c = false) : dropEnd p (x ++ [c]) = x ++ [c] := by
  unfold dropEnd; rw [List.reverse_append, List.reverse_singleton, List.singleton_append, List.dropWhile_cons, if_neg (by simp [h])]; simp
theorem dropEnd_length (p : UInt8 → Bool) (l : List UInt8) : (dropEnd p l).length ≤ l.length := by
  unfold dropEnd
  rw [List.length_reverse]
  have := (List.dropWhile_sublist p (l := l.reverse)).length_le
  simpa using this
theorem trimBy_length (p : UInt8 → Bool) (l : List UInt8) : (trimBy p l).length ≤ l.length :=
  Nat.le_trans (List.dropWhile_sublist p).length_le (dropEnd_length p l)

theorem dropEnd_last (p : UInt8 → Bool) (l : List UInt8) (h : ∀ c, l.getLast? = some c → p c = false) : dropEnd p l = l := by
  rcases List.eq_nil_or_concat l with rfl | ⟨x, c, rfl⟩
  · rfl
  · rw [List.concat_eq_append] at h ⊢
    exact dropEnd_no p x c (h c (by simp))
theorem dropWhile_head (p : UInt8 → Bool) (l : List UInt8) (h : ∀ c, l.head? = some c → p c = false) : l.dropWhile p = l := by
  cases l with
  | nil => rfl
  | cons a l => rw [List.dropWhile_cons, if_neg (by simp [h a rfl])]
theorem trimBy_self (p : UInt8 → Bool) (l : List UInt8) (h1 : ∀ c, l.head? = some c → p c = false) (h2 : ∀ c, l.getLast? = some c → p c = false) : trimBy p l = l := by
  rw [trimBy, dropEnd_last p l h2, dropWhile_head p l h1]
theorem trimBy_cons (p : UInt8 → Bool) (d : UInt8) (l : List UInt8) (hd : p d = true) (h1 : ∀ c, l.head? = some c → p c = false) (h2 : ∀ c, l.getLast? = some c → p c = false) : trimBy p (d :: l) = l := by
  cases l with
  | nil => simp [trimBy, dropEnd, hd]
  | cons a l =>
    have e : dropEnd p (d :: a :: l) = d :: a :: l := dropEnd_last p _ (fun c hc => h2 c (by rw [List.getLast?_cons_cons] at hc; exact hc))
    rw [trimBy, e, List.dropWhile_cons, if_pos hd, dropWhile_head p _ h1]
end Go.Proofs.YtnfidloiediflabDoor

/- Plain functions on lists of bytes: the letters of some bytes, in lines. No program. -/
import Derived.Lib.Bytealg
namespace Go.Proofs.YtdeggdmmipkfeaaDoor

/-- The 64 letters. -/
def abc : List UInt8 := [65, 66, 67, 68, 69, 70, 71, 72, 73, 74, 75, 76, 77, 78, 79, 80, 81, 82, 83, 84, 85, 86, 87, 88, 89, 90, 97, 98, 99, 100, 101, 102, 103, 104, 105, 106, 107, 108, 109, 110, 111, 112, 113, 114, 115, 116, 117, 118, 119, 120, 121, 122, 48, 49, 50, 51, 52, 53, 54, 55, 56, 57, 43, 47]

/-- Up to three bytes as one number of 24 bits. -/
def val3 (T : List UInt8) : Nat := (T.getD 0 0).toNat * 65536 + (T.getD 1 0).toNat * 256 + (T.getD 2 0).toNat

/-- The k-th letter of up to three bytes. -/
def letT (T : List UInt8) (k : Nat) : UInt8 := if 8 * T.length ≤ 6 * k then 61 else abc.getD (val3 T / 2 ^ (18 - 6 * k) % 64) 0

/-- The three bytes (or fewer) from which the i-th letter comes. -/
def trio (L : List UInt8) (i : Nat) : List UInt8 := (L.drop (i / 4 * 3)).take 3

/-- The i-th letter. -/
def encAt (L : List UInt8) (i : Nat) : UInt8 := letT (trio L i) (i % 4)

/-- What stands ahead of the i-th letter. -/
def sepAt (i : Nat) : List UInt8 := if 0 < i ∧ i % 76 = 0 then [13, 10] else []

/-- The first m letters. -/
def text (L : List UInt8) : Nat → List UInt8
  | 0 => []
  | m + 1 => text L m ++ (sepAt m ++ [encAt L m])

/-- All letters. -/
def encode (L : List UInt8) : List UInt8 := text L ((L.length + 2) / 3 * 4)

theorem text_length (L : List UInt8) (m : Nat) : (text L m).length ≤ 3 * m := by
  induction m with
  | zero => simp [text]
  | succ m ih =>
    have : (sepAt m).length ≤ 2 := by unfold sepAt; split <;> simp
    simp [text]; omega

theorem abc_lt (S : Nat) (h : S < 64) : ∃ h' : S < abc.length, abc.getD S 0 = abc[S] := by
  have : abc.length = 64 := rfl
  exact ⟨by omega, by simp [List.getD_eq_getElem?_getD, List.getElem?_eq_getElem (show S < abc.length by omega)]⟩

theorem encode_length (L : List UInt8) : (encode L).length ≤ 4 * L.length + 8 := by
  have := text_length L ((L.length + 2) / 3 * 4)
  unfold encode
  omega

theorem text_length_ge (L : List UInt8) (m : Nat) : m ≤ (text L m).length := by
  induction m with
  | zero => simp
  | succ m ih => simp [text]; omega

theorem text_plain (L : List UInt8) (k : Nat) (h : ¬ (0 < k ∧ k % 76 = 0)) : text L (k + 1) = text L k ++ [encAt L k] := by
  rw [text, sepAt, if_neg h]; rfl
theorem text_sep (L : List UInt8) (k : Nat) (h : 0 < k ∧ k % 76 = 0) : text L (k + 1) = text L k ++ [13, 10] ++ [encAt L k] := by
  rw [text, sepAt, if_pos h]; simp
theorem trio_getD (L : List UInt8) (k i : Nat) (h : i < 3) : (trio L k).getD i 0 = L.getD (k / 4 * 3 + i) 0 := by
  simp [trio, List.getD_eq_getElem?_getD, h]

theorem val3_lt (T : List UInt8) : val3 T < 16777216 := by
  unfold val3
  have h0 := (T.getD 0 0).toNat_lt
  have h1 := (T.getD 1 0).toNat_lt
  have h2 := (T.getD 2 0).toNat_lt
  omega

/-! Parts: where a whole line of bytes stands ahead. -/
theorem text_add (L M : List UInt8) (j : Nat) (hM : M = L.drop (57 * j)) (m : Nat) (hm : 0 < m) :
    text L (76 * j + m) = text L (76 * j) ++ ((if 0 < j then [13, 10] else []) ++ text M m) := by
  have he : ∀ i, encAt L (76 * j + i) = encAt M i := by
    intro i
    unfold encAt trio
    subst hM
    rw [List.drop_drop]
    have e1 : (76 * j + i) / 4 * 3 = 57 * j + i / 4 * 3 := by omega
    have e2 : (76 * j + i) % 4 = i % 4 := by omega
    rw [e1, e2]
  induction m with
  | zero => omega
  | succ m ih =>
    rw [show 76 * j + (m + 1) = (76 * j + m) + 1 from by omega, text, text, he]
    by_cases h0 : m = 0
    · subst h0
      have s0 : sepAt 0 = [] := rfl
      have sj : sepAt (76 * j + 0) = if 0 < j then [13, 10] else [] := by
        unfold sepAt
        by_cases hj0 : 0 < j
        · rw [if_pos ⟨by omega, by omega⟩, if_pos hj0]
        · rw [if_neg (by omega), if_neg hj0]
      rw [sj, s0]
      simp [text]
    · have sm : sepAt (76 * j + m) = sepAt m := by
        unfold sepAt
        have : (0 < 76 * j + m ∧ (76 * j + m) % 76 = 0) ↔ (0 < m ∧ m % 76 = 0) := by omega
        simp only [this]
      rw [ih (by omega), sm]
      simp

theorem text_take (L : List UInt8) (j : Nat) (m : Nat) (hm : m ≤ 76 * j) : text (L.take (57 * j)) m = text L m := by
  induction m with
  | zero => rfl
  | succ m ih =>
    have he : encAt (L.take (57 * j)) m = encAt L m := by
      unfold encAt trio
      rw [List.drop_take, List.take_take]
      have : min 3 (57 * j - m / 4 * 3) = 3 := by omega
      rw [this]
    rw [text, text, ih (by omega), he]

/-- BaseParts, in plain words. -/
theorem encode_parts (L : List UInt8) (j : Nat) (hj : 57 * j < L.length) :
    encode L = encode (L.take (57 * j)) ++ ((if 0 < j then [13, 10] else []) ++ encode (L.drop (57 * j))) := by
  unfold encode
  have h1 : (List.take (57 * j) L).length = 57 * j := by simp; omega
  have h2 : (List.drop (57 * j) L).length = L.length - 57 * j := by simp
  rw [h1, h2]
  have e1 : (57 * j + 2) / 3 * 4 = 76 * j := by omega
  have e2 : (L.length + 2) / 3 * 4 = 76 * j + (L.length - 57 * j + 2) / 3 * 4 := by omega
  rw [e1, e2, text_add L _ j rfl _ (by omega), text_take L j _ (Nat.le_refl _)]
end Go.Proofs.YtdeggdmmipkfeaaDoor

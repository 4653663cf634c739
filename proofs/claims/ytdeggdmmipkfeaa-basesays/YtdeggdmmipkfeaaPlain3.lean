/- Plain facts: letters bit by bit. No program. -/
import Derived.Test.YtdeggdmmipkfeaaPlain
namespace Go.Proofs.Ytdeggdmmipkfeaa

/-- The p-th bit of up to three bytes. -/
def bitAt (T : List UInt8) (p : Nat) : Nat := (T.getD (p / 8) 0).toNat / 2 ^ (7 - p % 8) % 2

/-- The number of the first m bits from bit 6k on. -/
def bitsV (T : List UInt8) (k : Nat) : Nat → Nat
  | 0 => 0
  | m + 1 => bitsV T k m * 2 + bitAt T (6 * k + m)

theorem bitsV_lt (T : List UInt8) (k m : Nat) : bitsV T k m < 2 ^ m := by
  induction m with
  | zero => simp [bitsV]
  | succ m ih =>
    have : bitAt T (6 * k + m) < 2 := Nat.mod_lt _ (by decide)
    rw [bitsV, Nat.pow_succ]
    omega

theorem bitsV_six (T : List UInt8) (k : Nat) (hk : k < 4) : bitsV T k 6 = val3 T / 2 ^ (18 - 6 * k) % 64 := by
  have h0 := (T.getD 0 0).toNat_lt
  have h1 := (T.getD 1 0).toNat_lt
  have h2 := (T.getD 2 0).toNat_lt
  unfold val3
  rcases (by omega : k = 0 ∨ k = 1 ∨ k = 2 ∨ k = 3) with rfl | rfl | rfl | rfl
  all_goals
    simp only [bitsV, bitAt, Nat.reduceMul, Nat.reduceAdd, Nat.reduceDiv, Nat.reduceMod, Nat.reduceSub, Nat.reducePow, Nat.zero_mul, Nat.zero_add, Nat.zero_div, Nat.zero_mod, Nat.sub_zero, Nat.sub_self, Nat.pow_zero, Nat.div_one, Nat.add_zero, Nat.mul_zero]
    generalize (T.getD 0 0).toNat = a at *
    generalize (T.getD 1 0).toNat = b at *
    generalize (T.getD 2 0).toNat = c at *
    omega

/-- Has one of the first m bits from bit 6k on come? -/
def thereB (T : List UInt8) (k m : Nat) : Bool := decide (0 < m ∧ 6 * k / 8 < T.length)

theorem there_yes (T : List UInt8) (k m : Nat) (h : (6 * k + m) / 8 < T.length) : thereB T k (m + 1) = true := by
  unfold thereB; rw [decide_eq_true_eq]; omega
theorem there_no (T : List UInt8) (k m : Nat) (h : ¬ (6 * k + m) / 8 < T.length) (hm : m < 6) : thereB T k m = thereB T k (m + 1) := by
  unfold thereB; rw [decide_eq_decide]; omega
theorem bitAt_none (T : List UInt8) (p : Nat) (h : ¬ p / 8 < T.length) : bitAt T p = 0 := by
  unfold bitAt
  rw [List.getD_eq_getElem?_getD, List.getElem?_eq_none (by omega)]
  simp

theorem letT_there (T : List UInt8) (k : Nat) (h : thereB T k 6 = true) (hk : k < 4) : letT T k = abc.getD (bitsV T k 6) 0 := by
  unfold thereB at h
  rw [decide_eq_true_eq] at h
  unfold letT
  rw [if_neg (by omega), bitsV_six T k hk]
theorem letT_none (T : List UInt8) (k : Nat) (h : thereB T k 6 = false) : letT T k = 61 := by
  unfold thereB at h
  rw [decide_eq_false_iff_not] at h
  unfold letT
  rw [if_pos (by omega)]

/-- The text ahead of the k-th letter of the j-th four. -/
def tx (L : List UInt8) (j : Nat) : Nat → List UInt8
  | 0 => text L (4 * j) ++ sepAt (4 * j)
  | k + 1 => tx L j k ++ [encAt L (4 * j + k)]

theorem encAt_four (L : List UInt8) (j k : Nat) (hk : k < 4) : encAt L (4 * j + k) = letT (trio L (4 * j)) k := by
  unfold encAt trio
  rw [show (4 * j + k) / 4 = 4 * j / 4 from by omega, show (4 * j + k) % 4 = k from by omega]
theorem tx_zero_none (L : List UInt8) (j : Nat) (h : ¬ (0 < j ∧ j % 19 = 0)) : tx L j 0 = text L (4 * j) := by
  rw [tx, sepAt, if_neg (by omega)]; simp
theorem tx_zero_sep (L : List UInt8) (j : Nat) (h : 0 < j ∧ j % 19 = 0) : tx L j 0 = text L (4 * j) ++ [13, 10] := by
  rw [tx, sepAt, if_pos (by omega)]
theorem tx_four (L : List UInt8) (j : Nat) : tx L j 4 = text L (4 * (j + 1)) := by
  have s : ∀ k, k < 4 → k ≠ 0 → sepAt (4 * j + k) = [] := by
    intro k hk h0
    unfold sepAt
    rw [if_neg (by omega)]
  rw [show 4 * (j + 1) = 4 * j + 3 + 1 from by omega, text, s 3 (by decide) (by decide), text, s 2 (by decide) (by decide), text, s 1 (by decide) (by decide), text]
  simp [tx]

theorem tx_length (L : List UInt8) (j k : Nat) : (tx L j k).length ≤ 12 * j + 2 + k := by
  induction k with
  | zero =>
    have h1 := text_length L (4 * j)
    have : (sepAt (4 * j)).length ≤ 2 := by unfold sepAt; split <;> simp
    simp [tx]; omega
  | succ k ih => simp [tx]; omega
end Go.Proofs.Ytdeggdmmipkfeaa

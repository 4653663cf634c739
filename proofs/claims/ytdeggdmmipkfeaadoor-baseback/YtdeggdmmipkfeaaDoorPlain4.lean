/- Plain facts: bytes out of single bits. No program. -/
import Derived.Test.YtdeggdmmipkfeaaDoorPlain2
namespace Go.Proofs.YtdeggdmmipkfeaaDoor

def bits6 (n : Nat) : List Nat := [n / 32 % 2, n / 16 % 2, n / 8 % 2, n / 4 % 2, n / 2 % 2, n % 2]
def flat (x : List UInt8) : List Nat := x.flatMap fun c => bits6 c.toNat

theorem flat_snoc (x : List UInt8) (c : UInt8) : flat (x ++ [c]) = flat x ++ bits6 c.toNat := by simp [flat]
theorem flat_length (x : List UInt8) : (flat x).length = 6 * x.length := by
  induction x with
  | nil => rfl
  | cons c x ih => simp [flat, bits6] at ih ⊢; omega

theorem flat_le (x : List UInt8) (i : Nat) : (flat x).getD i 0 ≤ 1 := by
  by_cases h : i < (flat x).length
  · have e : (flat x).getD i 0 = (flat x)[i] := by simp [List.getD_eq_getElem?_getD, List.getElem?_eq_getElem h]
    rw [e]
    have hm : (flat x)[i] ∈ flat x := List.getElem_mem h
    generalize (flat x)[i] = b at hm
    unfold flat at hm
    rw [List.mem_flatMap] at hm
    obtain ⟨c, _, hc⟩ := hm
    simp [bits6] at hc
    omega
  · rw [List.getD_eq_getElem?_getD, List.getElem?_eq_none (by omega)]
    decide

theorem flat_at (x : List UInt8) (a t : Nat) (ht : t < 6) : (flat x).getD (6 * a + t) 0 = (x.getD a 0).toNat / 2 ^ (5 - t) % 2 := by
  induction x generalizing a with
  | nil => simp [flat]
  | cons c x ih =>
    have e : flat (c :: x) = bits6 c.toNat ++ flat x := by simp [flat]
    rw [e]
    cases a with
    | zero =>
      rcases (by omega : t = 0 ∨ t = 1 ∨ t = 2 ∨ t = 3 ∨ t = 4 ∨ t = 5) with rfl | rfl | rfl | rfl | rfl | rfl <;> simp [bits6]
    | succ a =>
      have e2 : (bits6 c.toNat ++ flat x).getD (6 * (a + 1) + t) 0 = (flat x).getD (6 * a + t) 0 := by
        rw [List.getD_eq_getElem?_getD, List.getElem?_append_right (by simp [bits6]; omega), List.getD_eq_getElem?_getD]
        congr 2
        simp [bits6]
        omega
      rw [e2, ih a]
      simp

theorem joinTo_at (x : List UInt8) (M m r : Nat) (hm : m < M) (hr : r < 3) : (joinTo x M).getD (3 * m + r) 0 = (bytes3 (quad x m)).getD r 0 := by
  induction M with
  | zero => omega
  | succ M ih =>
    rw [joinTo, List.getD_eq_getElem?_getD]
    by_cases h : m < M
    · rw [List.getElem?_append_left (by rw [joinTo_length]; omega), ← List.getD_eq_getElem?_getD]
      exact ih h
    · obtain rfl : m = M := by omega
      rw [List.getElem?_append_right (by rw [joinTo_length]; omega), joinTo_length, show 3 * m + r - 3 * m = r from by omega, ← List.getD_eq_getElem?_getD]

/-- Eight bits are a byte. -/
theorem byte_bits (x : List UInt8) (h64 : ∀ c ∈ x, c.toNat < 64) (q : Nat) (hq : q < 3 * (x.length / 4)) :
    (((((((((flat x).getD (8 * q) 0) * 2 + (flat x).getD (8 * q + 1) 0) * 2 + (flat x).getD (8 * q + 2) 0) * 2 + (flat x).getD (8 * q + 3) 0) * 2 + (flat x).getD (8 * q + 4) 0) * 2 + (flat x).getD (8 * q + 5) 0) * 2 + (flat x).getD (8 * q + 6) 0) * 2 + (flat x).getD (8 * q + 7) 0) = ((joinS x).getD q 0).toNat := by
  have hlt : ∀ j, (x.getD j 0).toNat < 64 := by
    intro j
    by_cases hj : j < x.length
    · have e : x.getD j 0 = x[j] := by simp [List.getD_eq_getElem?_getD, List.getElem?_eq_getElem hj]
      rw [e]; exact h64 _ (List.getElem_mem hj)
    · rw [List.getD_eq_getElem?_getD, List.getElem?_eq_none (by omega)]; decide
  obtain ⟨m, r, hr, rfl⟩ : ∃ m r, r < 3 ∧ q = 3 * m + r := ⟨q / 3, q % 3, by omega, by omega⟩
  have hm : m < x.length / 4 := by omega
  unfold joinS
  rw [joinTo_at x _ m r hm hr]
  have key : ∀ t, t < 8 → (flat x).getD (8 * (3 * m + r) + t) 0 = (x.getD (4 * m + (8 * r + t) / 6) 0).toNat / 2 ^ (5 - (8 * r + t) % 6) % 2 := by
    intro t _
    rw [show 8 * (3 * m + r) + t = 6 * (4 * m + (8 * r + t) / 6) + (8 * r + t) % 6 from by omega]
    exact flat_at x _ _ (by omega)
  rw [show (flat x).getD (8 * (3 * m + r)) 0 = _ from key 0 (by decide), key 1 (by decide), key 2 (by decide), key 3 (by decide), key 4 (by decide), key 5 (by decide), key 6 (by decide), key 7 (by decide)]
  have h0 := hlt (4 * m); have h1 := hlt (4 * m + 1); have h2 := hlt (4 * m + 2); have h3 := hlt (4 * m + 3)
  rcases (by omega : r = 0 ∨ r = 1 ∨ r = 2) with rfl | rfl | rfl
  all_goals
    simp only [bytes3, quad, Nat.reduceMul, Nat.reduceAdd, Nat.reduceDiv, Nat.reduceMod, Nat.reduceSub, Nat.reducePow, Nat.zero_add, Nat.mul_zero, Nat.zero_div, Nat.zero_mod, Nat.sub_zero, Nat.add_zero, Nat.sub_self, Nat.pow_zero, Nat.div_one, List.getD_cons_zero, List.getD_cons_succ, UInt8.toNat_ofNat']
    generalize (x.getD (4 * m) 0).toNat = a0 at *
    generalize (x.getD (4 * m + 1) 0).toNat = a1 at *
    generalize (x.getD (4 * m + 2) 0).toNat = a2 at *
    generalize (x.getD (4 * m + 3) 0).toNat = a3 at *
    omega

theorem sp_idx (c : UInt8) : (0 ≤ Lib.indexByte [32, 9, 13, 10] c) ↔ sp c = true := by
  simp only [Lib.indexByte, sp, Bool.or_eq_true]
  by_cases h1 : c = 32
  · subst h1; decide
  · by_cases h2 : c = 9
    · subst h2; decide
    · by_cases h3 : c = 13
      · subst h3; decide
      · by_cases h4 : c = 10
        · subst h4; decide
        · have e1 : ((32 : UInt8) == c) = false := by simp; exact fun e => h1 e.symm
          have e2 : ((9 : UInt8) == c) = false := by simp; exact fun e => h2 e.symm
          have e3 : ((13 : UInt8) == c) = false := by simp; exact fun e => h3 e.symm
          have e4 : ((10 : UInt8) == c) = false := by simp; exact fun e => h4 e.symm
          simp [e1, e2, e3, e4, h1, h2, h3, h4]
end Go.Proofs.YtdeggdmmipkfeaaDoor

/- Plain facts on numbers: what or, and, shifts and wraps of small uint and int numbers come to. No program. -/
import Derived.Laws.BitsAllLaws
import Derived.Laws.Bits64
import Derived.Laws.BitsLemmas
namespace Go.Proofs.YtnjicfhmheaccaaDoor

theorem or_low (a b i m : Nat) (hm : m = 2 ^ i) (h : b < m) : a * m ||| b = a * m + b := by
  subst hm
  rw [← Nat.shiftLeft_eq, Nat.shiftLeft_add_eq_or_of_lt h]

theorem u64_or_low (a b : Int) (m : Nat) (i : Nat) (hm : m = 2 ^ i) (ha : 0 ≤ a) (hb : 0 ≤ b) (h : b < m) (hs : a * m + b < 18446744073709551616) :
    bits BinOp.or IntKind.u64 (a * m) b = a * m + b := by
  obtain ⟨x, rfl⟩ := Int.eq_ofNat_of_zero_le ha
  obtain ⟨y, rfl⟩ := Int.eq_ofNat_of_zero_le hb
  have e : (x : Int) * (m : Int) = ((x * m : Nat) : Int) := by simp
  rw [e] at hs ⊢
  rw [u64_or_nat (x * m) y (by omega) (by omega), or_low x y i m hm (by omega)]
  omega

theorem u64_or_zero (b : Int) (hb : 0 ≤ b) (h : b < 18446744073709551616) : bits BinOp.or IntKind.u64 0 b = b := by
  have := u64_or_low 0 b 18446744073709551616 64 (by decide) (by omega) hb (by omega) (by omega)
  simpa using this

theorem u64_wrap_id (n : Int) (h : 0 ≤ n) (h' : n < 18446744073709551616) : IntKind.u64.wrap n = n := by
  rw [IntKind.wrap_u64]; omega

theorem and_low (a i m : Nat) (hm : m = 2 ^ i - 1) : a &&& m = a % 2 ^ i := by
  subst hm; exact Nat.and_two_pow_sub_one_eq_mod a i

theorem u64_and_63 (n : Int) (h : 0 ≤ n) (h' : n < 18446744073709551616) : bits BinOp.and IntKind.u64 n 63 = n % 64 := by
  obtain ⟨x, rfl⟩ := Int.eq_ofNat_of_zero_le h
  have e : (63 : Int) = ((63 : Nat) : Int) := rfl
  rw [e, u64_and_nat x 63 (by omega) (by omega), and_low x 6 63 (by decide)]
  omega

theorem i64_and_1 (n : Int) : bits BinOp.and IntKind.i64 n 1 = n % 2 := by
  have h1 : (BitVec.ofInt 64 1).toNat = 2 ^ 1 - 1 := by decide
  have key : (BitVec.ofInt 64 n &&& BitVec.ofInt 64 1).toNat = (n % ((2 ^ 64 : Nat) : Int)).toNat % 2 ^ 1 := by
    rw [BitVec.toNat_and, BitVec.toNat_ofInt, h1, Nat.and_two_pow_sub_one_eq_mod]
  show IntKind.i64.wrap ((BitVec.ofInt 64 n &&& BitVec.ofInt 64 1).toNat : Nat) = n % 2
  rw [key, IntKind.wrap_i64]
  omega

/-- What 'letter' gathers: three bytes in one number. -/
theorem gather3 (x y z : Int) (hx : 0 ≤ x ∧ x < 256) (hy : 0 ≤ y ∧ y < 256) (hz : 0 ≤ z ∧ z < 256) :
    bits BinOp.or IntKind.u64 (IntKind.u64.wrap (bits BinOp.or IntKind.u64 (IntKind.u64.wrap (bits BinOp.or IntKind.u64 0 x * 256)) y * 256)) z = x * 65536 + y * 256 + z := by
  rw [u64_or_zero x (by omega) (by omega), u64_wrap_id (x * 256) (by omega) (by omega)]
  rw [show bits BinOp.or IntKind.u64 (x * 256) y = x * 256 + y from u64_or_low x y 256 8 (by decide) (by omega) (by omega) (by omega) (by omega)]
  rw [u64_wrap_id ((x * 256 + y) * 256) (by omega) (by omega)]
  rw [show bits BinOp.or IntKind.u64 ((x * 256 + y) * 256) z = (x * 256 + y) * 256 + z from u64_or_low (x * 256 + y) z 256 8 (by decide) (by omega) (by omega) (by omega) (by omega)]
  omega
theorem gather2 (x y : Int) (hx : 0 ≤ x ∧ x < 256) (hy : 0 ≤ y ∧ y < 256) :
    IntKind.u64.wrap (bits BinOp.or IntKind.u64 (IntKind.u64.wrap (bits BinOp.or IntKind.u64 0 x * 256)) y * 256) = x * 65536 + y * 256 := by
  rw [u64_or_zero x (by omega) (by omega), u64_wrap_id (x * 256) (by omega) (by omega)]
  rw [show bits BinOp.or IntKind.u64 (x * 256) y = x * 256 + y from u64_or_low x y 256 8 (by decide) (by omega) (by omega) (by omega) (by omega)]
  rw [u64_wrap_id ((x * 256 + y) * 256) (by omega) (by omega)]
  omega
theorem gather1 (x : Int) (hx : 0 ≤ x ∧ x < 256) :
    IntKind.u64.wrap (IntKind.u64.wrap (bits BinOp.or IntKind.u64 0 x * 256) * 256) = x * 65536 := by
  rw [u64_or_zero x (by omega) (by omega), u64_wrap_id (x * 256) (by omega) (by omega), u64_wrap_id (x * 256 * 256) (by omega) (by omega)]
  omega
end Go.Proofs.YtnjicfhmheaccaaDoor

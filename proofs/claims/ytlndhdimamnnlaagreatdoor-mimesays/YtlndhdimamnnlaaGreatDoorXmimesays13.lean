
import Derived.Laws.BitsAllLaws
import Derived.Laws.Bits64
import Derived.Laws.BitsLemmas
import Derived.Test.YtlndhdimamnnlaaGreatDoorXmimesays12
namespace Go.Proofs.YtlndhdimamnnlaaGreatDoor
theorem or_low (a b i m : Nat) (hm : m = 2 ^ i) (h : b < m) : a * m ||| b = a * m + b := by
 subst hm
 rw [← Nat.shiftLeft_eq, Nat.shiftLeft_add_eq_or_of_lt h]
theorem u64_or_low (a b : Int) (m : Nat) (i : Nat) (hm : m = 2 ^ i) (ha : 0 ≤ a) (hb : 0 ≤ b) (h : b < m) (hs : a * m + b < 18446744073709551616) :
  bits BinOp.or IntKind.u64 (a * m) b = a * m + b := by
 obtain ⟨x, rfl⟩ := Int.eq_ofNat_of_zero_le ha
 obtain ⟨y, rfl⟩ := Int.eq_ofNat_of_zero_le hb
 have e : (x : Int) * (m : Int) = ((x * m : Nat) : Int) := by simp
 rw [e] at hs ⊢
 rw [u64_or_nat (x * m) y (by omega) (by omega), or_low x y i m hm (by omega)]
 omega
theorem u64_or_zero (b : Int) (hb : 0 ≤ b) (h : b < 18446744073709551616) : bits BinOp.or IntKind.u64 0 b = b := by
 have := u64_or_low 0 b 18446744073709551616 64 (by decide) (by omega) hb (by omega) (by omega)
 simpa using this
theorem u64_wrap_id (n : Int) (h : 0 ≤ n) (h' : n < 18446744073709551616) : IntKind.u64.wrap n = n := by
 rw [IntKind.wrap_u64]; omega
theorem and_low (a i m : Nat) (hm : m = 2 ^ i - 1) : a &&& m = a % 2 ^ i := by
 subst hm; exact Nat.and_two_pow_sub_one_eq_mod a i
theorem u64_and_63 (n : Int) (h : 0 ≤ n) (h' : n < 18446744073709551616) : bits BinOp.and IntKind.u64 n 63 = n % 64 := by
 obtain ⟨x, rfl⟩ := Int.eq_ofNat_of_zero_le h
 have e : (63 : Int) = ((63 : Nat) : Int) := rfl
 rw [e, u64_and_nat x 63 (by omega) (by omega), and_low x 6 63 (by decide)]
 omega
theorem i64_and_1 (n : Int) : bits BinOp.and IntKind.i64 n 1 = n % 2 := by
 have h1 : (BitVec.ofInt 64 1).toNat = 2 ^ 1 - 1 := by decide
 have key : (BitVec.ofInt 64 n &&& BitVec.ofInt 64 1).toNat = (n % ((2 ^ 64 : Nat) : Int)).toNat % 2 ^ 1 := by
  rw [BitVec.toNat_and, BitVec.toNat_ofInt, h1, Nat.and_two_pow_sub_one_eq_mod]
 show IntKind.i64.wrap ((BitVec.ofInt 64 n &&& BitVec.ofInt 64 1).toNat : Nat) = n % 2
 rw [key, IntKind.wrap_i64]
 omega
theorem gather3 (x y z : Int) (hx : 0 ≤ x ∧ x < 256) (hy : 0 ≤ y ∧ y < 256) (hz : 0 ≤ z ∧ z < 256) :
  bits BinOp.or IntKind.u64 (IntKind.u64.wrap (bits BinOp.or IntKind.u64 (IntKind.u64.wrap (bits BinOp.or IntKind.u64 0 x * 256)) y * 256)) z = x * 65536 + y * 256 + z := by
 rw [u64_or_zero x (by omega) (by omega), u64_wrap_id (x * 256) (by omega) (by omega)]
 rw [show bits BinOp.or IntKind.u64 (x * 256) y = x * 256 + y from u64_or_low x y 256 8 (by decide) (by omega) (by omega) (by omega) (by omega)]
 rw [u64_wrap_id ((x * 256 + y) * 256) (by omega) (by omega)]
 rw [show bits BinOp.or IntKind.u64 ((x * 256 + y) * 256) z = (x * 256 + y) * 256 + z from u64_or_low (x * 256 + y) z 256 8 (by decide) (by omega) (by omega) (by omega) (by omega)]
 omega
theorem gather2 (x y : Int) (hx : 0 ≤ x ∧ x < 256) (hy : 0 ≤ y ∧ y < 256) :
  IntKind.u64.wrap (bits BinOp.or IntKind.u64 (IntKind.u64.wrap (bits BinOp.or IntKind.u64 0 x * 256)) y * 256) = x * 65536 + y * 256 := by
 rw [u64_or_zero x (by omega) (by omega), u64_wrap_id (x * 256) (by omega) (by omega)]
 rw [show bits BinOp.or IntKind.u64 (x * 256) y = x * 256 + y from u64_or_low x y 256 8 (by decide) (by omega) (by omega) (by omega) (by omega)]
 rw [u64_wrap_id ((x * 256 + y) * 256) (by omega) (by omega)]
 omega
theorem gather1 (x : Int) (hx : 0 ≤ x ∧ x < 256) :
  IntKind.u64.wrap (IntKind.u64.wrap (bits BinOp.or IntKind.u64 0 x * 256) * 256) = x * 65536 := by
 rw [u64_or_zero x (by omega) (by omega), u64_wrap_id (x * 256) (by omega) (by omega), u64_wrap_id (x * 256 * 256) (by omega) (by omega)]
 omega
end Go.Proofs.YtlndhdimamnnlaaGreatDoor



namespace Go.Proofs.YtlndhdimamnnlaaGreatDoor
open Go.RowKit
theorem fours_any (n : Nat) (nn : Int) (e : nn = n) (hn : n ≤ 1000000) (w : World) :
  Calls Tryz.prog 154 #[.int .i64 nn] w fun e w' => e = .returned (.int .i64 (((n + 2) / 3 : Nat) : Int)) ∧ w' = w := by
 subst e
 have h0 : (0 : Int) ≤ (n : Int) := by omega
 have h1 : (n : Int) ≤ 1000000 := by omega
 go_enter Tryz.func154, Tryz.ntmps154
 go_wp2
 go_ret
 exact ⟨by congr 2, rfl⟩
def abcB : ByteArray := ⟨#[65, 66, 67, 68, 69, 70, 71, 72, 73, 74, 75, 76, 77, 78, 79, 80, 81, 82, 83, 84, 85, 86, 87, 88, 89, 90, 97, 98, 99, 100, 101, 102, 103, 104, 105, 106, 107, 108, 109, 110, 111, 112, 113, 114, 115, 116, 117, 118, 119, 120, 121, 122, 48, 49, 50, 51, 52, 53, 54, 55, 56, 57, 43, 47]⟩
theorem abcB_at : ∀ S : Fin 64, ((abcB[S.val]'(by have := S.isLt; exact this)).toNat : Int) = ((abc.getD S.val 0).toNat : Int) := by decide
set_option maxHeartbeats 1000000 in
theorem letter10 (b o c : Nat) (x : UInt8) (w : World) (c0 : w.cell? ⟨b, o, none⟩ = some (.int .u8 (x.toNat : Int))) :
  Calls Tryz.prog 155 #[.slice (some ⟨b, o, none⟩) 1 c, .int .i64 0] w fun e w' => e = .returned (.int .u8 ((letT [x] 0).toNat : Int)) ∧ w' = w := by
 have hx := x.toNat_lt
 obtain ⟨V, hV⟩ : ∃ V, V = val3 [x] := ⟨_, rfl⟩
 have hVlt : V < 16777216 := by rw [hV]; exact val3_lt _
 have g3 : IntKind.u64.wrap (IntKind.u64.wrap (bits BinOp.or IntKind.u64 0 (x.toNat : Int) * 256) * 256) = (V : Int) := by
  rw [gather1 _ (by omega), hV]
  simp [val3]
 obtain ⟨S, hS⟩ : ∃ S, S = V / 262144 % 64 := ⟨_, rfl⟩
 have hS64 : S < 64 := by omega
 have hand : bits BinOp.and IntKind.u64 ((V : Int) / 262144) 63 = (S : Int) := by
  rw [u64_and_63 _ (by omega) (by omega)]
  omega
 have HF : Hid ((letT [x] 0).toNat = (abc.getD S 0).toNat) := by
  unfold Hid letT
  rw [if_neg (by simp), ← hV, hS]
 clear hV hS
 go_enter Tryz.func155, Tryz.ntmps155
 go_wp2
 refine wp_loop_rounds 4 ?_
 rw [rounds_succ]
 go_wp2
 rw [rounds_succ]
 go_wp2
 rw [rounds_succ]
 go_wp2
 rw [rounds_succ]
 go_wp2
 go_ret
 exact ⟨ret_u8 (by rw [HF.out]; exact abcB_at ⟨S, hS64⟩), rfl⟩
set_option maxHeartbeats 1000000 in
theorem letter11 (b o c : Nat) (x : UInt8) (w : World) (c0 : w.cell? ⟨b, o, none⟩ = some (.int .u8 (x.toNat : Int))) :
  Calls Tryz.prog 155 #[.slice (some ⟨b, o, none⟩) 1 c, .int .i64 1] w fun e w' => e = .returned (.int .u8 ((letT [x] 1).toNat : Int)) ∧ w' = w := by
 have hx := x.toNat_lt
 obtain ⟨V, hV⟩ : ∃ V, V = val3 [x] := ⟨_, rfl⟩
 have hVlt : V < 16777216 := by rw [hV]; exact val3_lt _
 have g3 : IntKind.u64.wrap (IntKind.u64.wrap (bits BinOp.or IntKind.u64 0 (x.toNat : Int) * 256) * 256) = (V : Int) := by
  rw [gather1 _ (by omega), hV]
  simp [val3]
 obtain ⟨S, hS⟩ : ∃ S, S = V / 4096 % 64 := ⟨_, rfl⟩
 have hS64 : S < 64 := by omega
 have hand : bits BinOp.and IntKind.u64 ((V : Int) / 4096) 63 = (S : Int) := by
  rw [u64_and_63 _ (by omega) (by omega)]
  omega
 have HF : Hid ((letT [x] 1).toNat = (abc.getD S 0).toNat) := by
  unfold Hid letT
  rw [if_neg (by simp), ← hV, hS]
 clear hV hS
 go_enter Tryz.func155, Tryz.ntmps155
 go_wp2
 refine wp_loop_rounds 4 ?_
 rw [rounds_succ]
 go_wp2
 rw [rounds_succ]
 go_wp2
 rw [rounds_succ]
 go_wp2
 rw [rounds_succ]
 go_wp2
 go_ret
 exact ⟨ret_u8 (by rw [HF.out]; exact abcB_at ⟨S, hS64⟩), rfl⟩
set_option maxHeartbeats 1000000 in
theorem letter12 (b o c : Nat) (x : UInt8) (w : World)  :
  Calls Tryz.prog 155 #[.slice (some ⟨b, o, none⟩) 1 c, .int .i64 2] w fun e w' => e = .returned (.int .u8 ((letT [x] 2).toNat : Int)) ∧ w' = w := by
 go_enter Tryz.func155, Tryz.ntmps155
 go_wp2
 go_ret
 exact ⟨rfl, rfl⟩
set_option maxHeartbeats 1000000 in
theorem letter13 (b o c : Nat) (x : UInt8) (w : World)  :
  Calls Tryz.prog 155 #[.slice (some ⟨b, o, none⟩) 1 c, .int .i64 3] w fun e w' => e = .returned (.int .u8 ((letT [x] 3).toNat : Int)) ∧ w' = w := by
 go_enter Tryz.func155, Tryz.ntmps155
 go_wp2
 go_ret
 exact ⟨rfl, rfl⟩
set_option maxHeartbeats 1000000 in
theorem letter20 (b o c : Nat) (x y : UInt8) (w : World) (c0 : w.cell? ⟨b, o, none⟩ = some (.int .u8 (x.toNat : Int))) (c1 : w.cell? ⟨b, o + 1, none⟩ = some (.int .u8 (y.toNat : Int))) :
  Calls Tryz.prog 155 #[.slice (some ⟨b, o, none⟩) 2 c, .int .i64 0] w fun e w' => e = .returned (.int .u8 ((letT [x, y] 0).toNat : Int)) ∧ w' = w := by
 have hx := x.toNat_lt
 have hy := y.toNat_lt
 obtain ⟨V, hV⟩ : ∃ V, V = val3 [x, y] := ⟨_, rfl⟩
 have hVlt : V < 16777216 := by rw [hV]; exact val3_lt _
 have g3 : IntKind.u64.wrap (bits BinOp.or IntKind.u64 (IntKind.u64.wrap (bits BinOp.or IntKind.u64 0 (x.toNat : Int) * 256)) (y.toNat : Int) * 256) = (V : Int) := by
  rw [gather2 _ _ (by omega) (by omega), hV]
  simp [val3]
 obtain ⟨S, hS⟩ : ∃ S, S = V / 262144 % 64 := ⟨_, rfl⟩
 have hS64 : S < 64 := by omega
 have hand : bits BinOp.and IntKind.u64 ((V : Int) / 262144) 63 = (S : Int) := by
  rw [u64_and_63 _ (by omega) (by omega)]
  omega
 have HF : Hid ((letT [x, y] 0).toNat = (abc.getD S 0).toNat) := by
  unfold Hid letT
  rw [if_neg (by simp), ← hV, hS]
 clear hV hS
 go_enter Tryz.func155, Tryz.ntmps155
 go_wp2
 refine wp_loop_rounds 4 ?_
 rw [rounds_succ]
 go_wp2
 rw [rounds_succ]
 go_wp2
 rw [rounds_succ]
 go_wp2
 rw [rounds_succ]
 go_wp2
 go_ret
 exact ⟨ret_u8 (by rw [HF.out]; exact abcB_at ⟨S, hS64⟩), rfl⟩
set_option maxHeartbeats 1000000 in
theorem letter21 (b o c : Nat) (x y : UInt8) (w : World) (c0 : w.cell? ⟨b, o, none⟩ = some (.int .u8 (x.toNat : Int))) (c1 : w.cell? ⟨b, o + 1, none⟩ = some (.int .u8 (y.toNat : Int))) :
  Calls Tryz.prog 155 #[.slice (some ⟨b, o, none⟩) 2 c, .int .i64 1] w fun e w' => e = .returned (.int .u8 ((letT [x, y] 1).toNat : Int)) ∧ w' = w := by
 have hx := x.toNat_lt
 have hy := y.toNat_lt
 obtain ⟨V, hV⟩ : ∃ V, V = val3 [x, y] := ⟨_, rfl⟩
 have hVlt : V < 16777216 := by rw [hV]; exact val3_lt _
 have g3 : IntKind.u64.wrap (bits BinOp.or IntKind.u64 (IntKind.u64.wrap (bits BinOp.or IntKind.u64 0 (x.toNat : Int) * 256)) (y.toNat : Int) * 256) = (V : Int) := by
  rw [gather2 _ _ (by omega) (by omega), hV]
  simp [val3]
 obtain ⟨S, hS⟩ : ∃ S, S = V / 4096 % 64 := ⟨_, rfl⟩
 have hS64 : S < 64 := by omega
 have hand : bits BinOp.and IntKind.u64 ((V : Int) / 4096) 63 = (S : Int) := by
  rw [u64_and_63 _ (by omega) (by omega)]
  omega
 have HF : Hid ((letT [x, y] 1).toNat = (abc.getD S 0).toNat) := by
  unfold Hid letT
  rw [if_neg (by simp), ← hV, hS]
 clear hV hS
 go_enter Tryz.func155, Tryz.ntmps155
 go_wp2
 refine wp_loop_rounds 4 ?_
 rw [rounds_succ]
 go_wp2
 rw [rounds_succ]
 go_wp2
 rw [rounds_succ]
 go_wp2
 rw [rounds_succ]
 go_wp2
 go_ret
 exact ⟨ret_u8 (by rw [HF.out]; exact abcB_at ⟨S, hS64⟩), rfl⟩
set_option maxHeartbeats 1000000 in
theorem letter22 (b o c : Nat) (x y : UInt8) (w : World) (c0 : w.cell? ⟨b, o, none⟩ = some (.int .u8 (x.toNat : Int))) (c1 : w.cell? ⟨b, o + 1, none⟩ = some (.int .u8 (y.toNat : Int))) :
  Calls Tryz.prog 155 #[.slice (some ⟨b, o, none⟩) 2 c, .int .i64 2] w fun e w' => e = .returned (.int .u8 ((letT [x, y] 2).toNat : Int)) ∧ w' = w := by
 have hx := x.toNat_lt
 have hy := y.toNat_lt
 obtain ⟨V, hV⟩ : ∃ V, V = val3 [x, y] := ⟨_, rfl⟩
 have hVlt : V < 16777216 := by rw [hV]; exact val3_lt _
 have g3 : IntKind.u64.wrap (bits BinOp.or IntKind.u64 (IntKind.u64.wrap (bits BinOp.or IntKind.u64 0 (x.toNat : Int) * 256)) (y.toNat : Int) * 256) = (V : Int) := by
  rw [gather2 _ _ (by omega) (by omega), hV]
  simp [val3]
 obtain ⟨S, hS⟩ : ∃ S, S = V / 64 % 64 := ⟨_, rfl⟩
 have hS64 : S < 64 := by omega
 have hand : bits BinOp.and IntKind.u64 ((V : Int) / 64) 63 = (S : Int) := by
  rw [u64_and_63 _ (by omega) (by omega)]
  omega
 have HF : Hid ((letT [x, y] 2).toNat = (abc.getD S 0).toNat) := by
  unfold Hid letT
  rw [if_neg (by simp), ← hV, hS]
 clear hV hS
 go_enter Tryz.func155, Tryz.ntmps155
 go_wp2
 refine wp_loop_rounds 4 ?_
 rw [rounds_succ]
 go_wp2
 rw [rounds_succ]
 go_wp2
 rw [rounds_succ]
 go_wp2
 rw [rounds_succ]
 go_wp2
 go_ret
 exact ⟨ret_u8 (by rw [HF.out]; exact abcB_at ⟨S, hS64⟩), rfl⟩
set_option maxHeartbeats 1000000 in
theorem letter23 (b o c : Nat) (x y : UInt8) (w : World)  :
  Calls Tryz.prog 155 #[.slice (some ⟨b, o, none⟩) 2 c, .int .i64 3] w fun e w' => e = .returned (.int .u8 ((letT [x, y] 3).toNat : Int)) ∧ w' = w := by
 go_enter Tryz.func155, Tryz.ntmps155
 go_wp2
 go_ret
 exact ⟨rfl, rfl⟩
set_option maxHeartbeats 1000000 in
theorem letter30 (b o c : Nat) (x y z : UInt8) (w : World) (c0 : w.cell? ⟨b, o, none⟩ = some (.int .u8 (x.toNat : Int))) (c1 : w.cell? ⟨b, o + 1, none⟩ = some (.int .u8 (y.toNat : Int))) (c2 : w.cell? ⟨b, o + 2, none⟩ = some (.int .u8 (z.toNat : Int))) :
  Calls Tryz.prog 155 #[.slice (some ⟨b, o, none⟩) 3 c, .int .i64 0] w fun e w' => e = .returned (.int .u8 ((letT [x, y, z] 0).toNat : Int)) ∧ w' = w := by
 have hx := x.toNat_lt
 have hy := y.toNat_lt
 have hz := z.toNat_lt
 obtain ⟨V, hV⟩ : ∃ V, V = val3 [x, y, z] := ⟨_, rfl⟩
 have hVlt : V < 16777216 := by rw [hV]; exact val3_lt _
 have g3 : bits BinOp.or IntKind.u64 (IntKind.u64.wrap (bits BinOp.or IntKind.u64 (IntKind.u64.wrap (bits BinOp.or IntKind.u64 0 (x.toNat : Int) * 256)) (y.toNat : Int) * 256)) (z.toNat : Int) = (V : Int) := by
  rw [gather3 _ _ _ (by omega) (by omega) (by omega), hV]
  simp [val3]
 obtain ⟨S, hS⟩ : ∃ S, S = V / 262144 % 64 := ⟨_, rfl⟩
 have hS64 : S < 64 := by omega
 have hand : bits BinOp.and IntKind.u64 ((V : Int) / 262144) 63 = (S : Int) := by
  rw [u64_and_63 _ (by omega) (by omega)]
  omega
 have HF : Hid ((letT [x, y, z] 0).toNat = (abc.getD S 0).toNat) := by
  unfold Hid letT
  rw [if_neg (by simp), ← hV, hS]
 clear hV hS
 go_enter Tryz.func155, Tryz.ntmps155
 go_wp2
 refine wp_loop_rounds 4 ?_
 rw [rounds_succ]
 go_wp2
 rw [rounds_succ]
 go_wp2
 rw [rounds_succ]
 go_wp2
 rw [rounds_succ]
 go_wp2
 go_ret
 exact ⟨ret_u8 (by rw [HF.out]; exact abcB_at ⟨S, hS64⟩), rfl⟩
set_option maxHeartbeats 1000000 in
theorem letter31 (b o c : Nat) (x y z : UInt8) (w : World) (c0 : w.cell? ⟨b, o, none⟩ = some (.int .u8 (x.toNat : Int))) (c1 : w.cell? ⟨b, o + 1, none⟩ = some (.int .u8 (y.toNat : Int))) (c2 : w.cell? ⟨b, o + 2, none⟩ = some (.int .u8 (z.toNat : Int))) :
  Calls Tryz.prog 155 #[.slice (some ⟨b, o, none⟩) 3 c, .int .i64 1] w fun e w' => e = .returned (.int .u8 ((letT [x, y, z] 1).toNat : Int)) ∧ w' = w := by
 have hx := x.toNat_lt
 have hy := y.toNat_lt
 have hz := z.toNat_lt
 obtain ⟨V, hV⟩ : ∃ V, V = val3 [x, y, z] := ⟨_, rfl⟩
 have hVlt : V < 16777216 := by rw [hV]; exact val3_lt _
 have g3 : bits BinOp.or IntKind.u64 (IntKind.u64.wrap (bits BinOp.or IntKind.u64 (IntKind.u64.wrap (bits BinOp.or IntKind.u64 0 (x.toNat : Int) * 256)) (y.toNat : Int) * 256)) (z.toNat : Int) = (V : Int) := by
  rw [gather3 _ _ _ (by omega) (by omega) (by omega), hV]
  simp [val3]
 obtain ⟨S, hS⟩ : ∃ S, S = V / 4096 % 64 := ⟨_, rfl⟩
 have hS64 : S < 64 := by omega
 have hand : bits BinOp.and IntKind.u64 ((V : Int) / 4096) 63 = (S : Int) := by
  rw [u64_and_63 _ (by omega) (by omega)]
  omega
 have HF : Hid ((letT [x, y, z] 1).toNat = (abc.getD S 0).toNat) := by
  unfold Hid letT
  rw [if_neg (by simp), ← hV, hS]
 clear hV hS
 go_enter Tryz.func155, Tryz.ntmps155
 go_wp2
 refine wp_loop_rounds 4 ?_
 rw [rounds_succ]
 go_wp2
 rw [rounds_succ]
 go_wp2
 rw [rounds_succ]
 go_wp2
 rw [rounds_succ]
 go_wp2
 go_ret
 exact ⟨ret_u8 (by rw [HF.out]; exact abcB_at ⟨S, hS64⟩), rfl⟩
set_option maxHeartbeats 1000000 in
theorem letter32 (b o c : Nat) (x y z : UInt8) (w : World) (c0 : w.cell? ⟨b, o, none⟩ = some (.int .u8 (x.toNat : Int))) (c1 : w.cell? ⟨b, o + 1, none⟩ = some (.int .u8 (y.toNat : Int))) (c2 : w.cell? ⟨b, o + 2, none⟩ = some (.int .u8 (z.toNat : Int))) :
  Calls Tryz.prog 155 #[.slice (some ⟨b, o, none⟩) 3 c, .int .i64 2] w fun e w' => e = .returned (.int .u8 ((letT [x, y, z] 2).toNat : Int)) ∧ w' = w := by
 have hx := x.toNat_lt
 have hy := y.toNat_lt
 have hz := z.toNat_lt
 obtain ⟨V, hV⟩ : ∃ V, V = val3 [x, y, z] := ⟨_, rfl⟩
 have hVlt : V < 16777216 := by rw [hV]; exact val3_lt _
 have g3 : bits BinOp.or IntKind.u64 (IntKind.u64.wrap (bits BinOp.or IntKind.u64 (IntKind.u64.wrap (bits BinOp.or IntKind.u64 0 (x.toNat : Int) * 256)) (y.toNat : Int) * 256)) (z.toNat : Int) = (V : Int) := by
  rw [gather3 _ _ _ (by omega) (by omega) (by omega), hV]
  simp [val3]
 obtain ⟨S, hS⟩ : ∃ S, S = V / 64 % 64 := ⟨_, rfl⟩
 have hS64 : S < 64 := by omega
 have hand : bits BinOp.and IntKind.u64 ((V : Int) / 64) 63 = (S : Int) := by
  rw [u64_and_63 _ (by omega) (by omega)]
  omega
 have HF : Hid ((letT [x, y, z] 2).toNat = (abc.getD S 0).toNat) := by
  unfold Hid letT
  rw [if_neg (by simp), ← hV, hS]
 clear hV hS
 go_enter Tryz.func155, Tryz.ntmps155
 go_wp2
 refine wp_loop_rounds 4 ?_
 rw [rounds_succ]
 go_wp2
 rw [rounds_succ]
 go_wp2
 rw [rounds_succ]
 go_wp2
 rw [rounds_succ]
 go_wp2
 go_ret
 exact ⟨ret_u8 (by rw [HF.out]; exact abcB_at ⟨S, hS64⟩), rfl⟩
set_option maxHeartbeats 1000000 in
theorem letter33 (b o c : Nat) (x y z : UInt8) (w : World) (c0 : w.cell? ⟨b, o, none⟩ = some (.int .u8 (x.toNat : Int))) (c1 : w.cell? ⟨b, o + 1, none⟩ = some (.int .u8 (y.toNat : Int))) (c2 : w.cell? ⟨b, o + 2, none⟩ = some (.int .u8 (z.toNat : Int))) :
  Calls Tryz.prog 155 #[.slice (some ⟨b, o, none⟩) 3 c, .int .i64 3] w fun e w' => e = .returned (.int .u8 ((letT [x, y, z] 3).toNat : Int)) ∧ w' = w := by
 have hx := x.toNat_lt
 have hy := y.toNat_lt
 have hz := z.toNat_lt
 obtain ⟨V, hV⟩ : ∃ V, V = val3 [x, y, z] := ⟨_, rfl⟩
 have hVlt : V < 16777216 := by rw [hV]; exact val3_lt _
 have g3 : bits BinOp.or IntKind.u64 (IntKind.u64.wrap (bits BinOp.or IntKind.u64 (IntKind.u64.wrap (bits BinOp.or IntKind.u64 0 (x.toNat : Int) * 256)) (y.toNat : Int) * 256)) (z.toNat : Int) = (V : Int) := by
  rw [gather3 _ _ _ (by omega) (by omega) (by omega), hV]
  simp [val3]
 obtain ⟨S, hS⟩ : ∃ S, S = V / 1 % 64 := ⟨_, rfl⟩
 have hS64 : S < 64 := by omega
 have hand : bits BinOp.and IntKind.u64 (V : Int) 63 = (S : Int) := by
  rw [u64_and_63 _ (by omega) (by omega)]
  omega
 have HF : Hid ((letT [x, y, z] 3).toNat = (abc.getD S 0).toNat) := by
  unfold Hid letT
  rw [if_neg (by simp), ← hV, hS]
 clear hV hS
 go_enter Tryz.func155, Tryz.ntmps155
 go_wp2
 refine wp_loop_rounds 4 ?_
 rw [rounds_succ]
 go_wp2
 rw [rounds_succ]
 go_wp2
 rw [rounds_succ]
 go_wp2
 rw [rounds_succ]
 go_wp2
 go_ret
 exact ⟨ret_u8 (by rw [HF.out]; exact abcB_at ⟨S, hS64⟩), rfl⟩
theorem letter_any (b o m c : Nat) (T : List UInt8) (k : Nat) (kk : Int) (em : m = T.length) (e : kk = k) (w : World) (hk : k < 4) (h1 : 1 ≤ T.length) (h3 : T.length ≤ 3)
  (hc : ∀ i, i < T.length → w.cell? ⟨b, o + i, none⟩ = some (.int .u8 ((T.getD i 0).toNat : Int))) :
  Calls Tryz.prog 155 #[.slice (some ⟨b, o, none⟩) m c, .int .i64 kk] w fun e w' => e = .returned (.int .u8 ((letT T k).toNat : Int)) ∧ w' = w := by
 subst e
 subst em
 match T, h1, h3, hc with
 | [x], _, _, hc =>
  have c0 := hc 0 (by simp)
  rcases (by omega : k = 0 ∨ k = 1 ∨ k = 2 ∨ k = 3) with rfl | rfl | rfl | rfl
  ·exact letter10 b o c x w c0
  ·exact letter11 b o c x w c0
  ·exact letter12 b o c x w
  ·exact letter13 b o c x w
 | [x, y], _, _, hc =>
  have c0 := hc 0 (by simp)
  have c1 := hc 1 (by simp)
  rcases (by omega : k = 0 ∨ k = 1 ∨ k = 2 ∨ k = 3) with rfl | rfl | rfl | rfl
  ·exact letter20 b o c x y w c0 c1
  ·exact letter21 b o c x y w c0 c1
  ·exact letter22 b o c x y w c0 c1
  ·exact letter23 b o c x y w
 | [x, y, z], _, _, hc =>
  have c0 := hc 0 (by simp)
  have c1 := hc 1 (by simp)
  have c2 := hc 2 (by simp)
  rcases (by omega : k = 0 ∨ k = 1 ∨ k = 2 ∨ k = 3) with rfl | rfl | rfl | rfl
  ·exact letter30 b o c x y z w c0 c1 c2
  ·exact letter31 b o c x y z w c0 c1 c2
  ·exact letter32 b o c x y z w c0 c1 c2
  ·exact letter33 b o c x y z w c0 c1 c2
end Go.Proofs.YtlndhdimamnnlaaGreatDoor


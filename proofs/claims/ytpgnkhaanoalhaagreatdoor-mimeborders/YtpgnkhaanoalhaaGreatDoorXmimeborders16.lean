/- mime.Split at any bytes and any border: what the plain function says, errors too; nothing that was there is changed. Condition: the bytes lie there. -/
import Derived.Test.YtpgnkhaanoalhaaGreatDoorXmimeborders15
import Derived.Test.YtpgnkhaanoalhaaGreatDoorXmimeborders4
import Derived.Laws.BitsAllLaws
import Derived.Laws.Bits64
import Derived.Laws.BitsLemmas
namespace Go.Proofs.YtpgnkhaanoalhaaGreatDoor
open Go.RowKit

theorem isEmpty_size (B : ByteArray) : B.toList.isEmpty = decide (B.size = 0) := by
  rw [ByteArray.toList_eq, Lib.size_eq]
  cases B.data.toList <;> simp
theorem str_is_empty (B : ByteArray) : (B.toList == (ByteArray.mk #[]).toList) = decide (B.size = 0) := by
  rw [str_beq, Lib.size_eq]
  exact decide_eq_decide.2 ⟨fun h => by rw [h]; rfl, fun h => List.length_eq_zero_iff.1 h⟩

set_option maxRecDepth 100000 in
theorem split_big (p : Option Addr) (n c : Nat) (B : ByteArray) (w : World) (hn : 40000 < n) :
    Calls Tryz.prog 9 #[.slice p n c, .string B] w fun e w' => e = .returned (.tuple #[.slice none 0 0, .int .i64 2]) ∧ w' = w := by
  have h1 : (40000 : Int) < (n : Int) := by omega
  go_enter Tryz.func9, Tryz.ntmps9
  go_wp2
  go_ret2
  exact ⟨rfl, rfl⟩
set_option maxRecDepth 100000 in
theorem split_range (p : Option Addr) (n c : Nat) (B : ByteArray) (w : World) (hn : n ≤ 40000) (hB : B.size = 0 ∨ 60 < B.size) :
    Calls Tryz.prog 9 #[.slice p n c, .string B] w fun e w' => e = .returned (.tuple #[.slice none 0 0, .int .i64 3]) ∧ w' = w := by
  have h1 : ¬ (40000 : Int) < (n : Int) := by omega
  have he := isEmpty_size B
  rcases Nat.eq_zero_or_pos B.size with h0 | h0
  · rw [decide_eq_true h0] at he
    go_enter Tryz.func9, Tryz.ntmps9
    go_wp2
    go_ret2
    exact ⟨rfl, rfl⟩
  · rw [decide_eq_false (by omega)] at he
    have h6 : (60 : Int) < (B.size : Int) := by omega
    go_enter Tryz.func9, Tryz.ntmps9
    go_wp2
    go_ret2
    exact ⟨rfl, rfl⟩
set_option maxRecDepth 100000 in
theorem split_none (p : Option Addr) (c : Nat) (B : ByteArray) (w : World) (hB1 : 1 ≤ B.size) (hB2 : B.size ≤ 60) :
    Calls Tryz.prog 9 #[.slice p 0 c, .string B] w fun e w' => e = .returned (.tuple #[.slice none 0 0, .int .i64 1]) ∧ w' = w := by
  have he := isEmpty_size B
  rw [decide_eq_false (by omega)] at he
  have h6 : ¬ (60 : Int) < (B.size : Int) := by omega
  go_enter Tryz.func9, Tryz.ntmps9
  go_wp2
  refine wp_loop_rounds 1 ?_
  rw [rounds_succ]
  go_wp2
  go_ret2
  exact ⟨rfl, rfl⟩

/-- mime.Split. -/
theorem split_any (p : Option Addr) (n c : Nat) (L : List UInt8) (en : n = L.length) (B : ByteArray) (w : World) (hc : n ≤ c) (hr : BRow w p L) :
    Calls Tryz.prog 9 #[.slice p n c, .string B] w fun e w' => SplitPost w (splitS L B.data.toList) e w' := by
  unfold splitS
  by_cases h4 : 40000 < L.length
  · rw [if_pos h4]
    refine (split_big p n c B w (by omega)).mono ?_
    rintro e w' ⟨rfl, rfl⟩
    exact splitPost_no (Below.refl _ _) (by decide)
  · rw [if_neg h4]
    by_cases hb : B.data.toList = [] ∨ 60 < B.data.toList.length
    · rw [if_pos hb]
      refine (split_range p n c B w (by omega) ?_).mono ?_
      · rw [Lib.size_eq]
        rcases hb with h | h
        · exact .inl (by rw [h]; rfl)
        · exact .inr h
      · rintro e w' ⟨rfl, rfl⟩
        exact splitPost_no (Below.refl _ _) (by decide)
    · rw [if_neg hb]
      have hB1 : 1 ≤ B.size := by
        rw [Lib.size_eq]
        rcases Nat.eq_zero_or_pos B.data.toList.length with h | h
        · exact absurd (.inl (List.length_eq_zero_iff.1 h)) hb
        · exact h
      have hB2 : B.size ≤ 60 := by
        rw [Lib.size_eq]
        rcases Nat.lt_or_ge 60 B.data.toList.length with h | h
        · exact absurd (.inr h) hb
        · exact h
      by_cases h0 : L = []
      · subst h0
        obtain rfl : n = 0 := en
        refine (split_none p c B w hB1 hB2).mono ?_
        rintro e w' ⟨rfl, rfl⟩
        rw [splitGo_nil]
        exact splitPost_no (Below.refl _ _) (by decide)
      · obtain ⟨b, o, rfl, hcell⟩ := hr h0
        have hpos : 1 ≤ n := by rw [en]; exact List.length_pos_iff.2 h0
        exact split_some b o n c L en B hB1 hB2 w hpos (by omega) hc hcell
end Go.Proofs.YtpgnkhaanoalhaaGreatDoor

/- What was read lies in new memory. No function of the program. -/
namespace Go.Proofs.YtpgnkhaanoalhaaGreatDoor
open Go.RowKit

/-- New memory, or none. -/
def FreshP (w w' : World) (p : Option Addr) (c : Nat) : Prop := (∀ a, p = some a → w.heap.size ≤ a.block ∧ a.block < w'.heap.size) ∧ (p = none → c = 0)
def ReadPostN (w : World) (out : List UInt8 × Nat) (e : Ending) (w' : World) : Prop :=
  Below w.heap.size w w' ∧ ∃ p c, e = .returned (.tuple #[.slice p out.1.length c, .int .i64 (out.2 : Int)]) ∧ out.1.length ≤ c ∧ c ≤ maxLen ∧ BRow w' p out.1 ∧ FreshP w w' p c
theorem readPostN_none {w w' : World} (hb : Below w.heap.size w w') (n : Nat) : ReadPostN w ([], n) (.returned (.tuple #[.slice none 0 0, .int .i64 (n : Int)])) w' :=
  ⟨hb, none, 0, rfl, Nat.le_refl _, by decide, (fun h => absurd rfl h), (fun a h => by cases h), fun _ => rfl⟩
theorem ReadPostN.old {w w' : World} {out : List UInt8 × Nat} {e : Ending} (h : ReadPostN w out e w') : ReadPost w out e w' := by
  obtain ⟨hb, p, c, e1, h1, h2, h3, _⟩ := h
  exact ⟨hb, p, c, e1, h1, h2, h3⟩
theorem own_fresh {w : World} {B B' e s n k c : Nat} {p : Option Addr} {xs : List Value} (h : w.ownsRow B e s (.slice p n c) k xs) (hB : B' ≤ B) : ∀ a, p = some a → B' ≤ a.block ∧ a.block < w.heap.size := by
  intro a ha
  subst ha
  rcases h.2 with ⟨h0, _⟩ | ⟨g, cap, cur, hv, hg, hh, _⟩
  · cases h0
  · cases hv
    exact ⟨Nat.le_trans hB hg, (Array.getElem?_eq_some_iff.1 hh).1⟩
theorem own_freshP {w w0 : World} {B e s n k c : Nat} {p : Option Addr} {xs : List Value} (h : w.ownsRow B e s (.slice p n c) k xs) (hB : w0.heap.size ≤ B) : FreshP w0 w p c := by
  refine ⟨own_fresh h hB, fun hp => ?_⟩
  subst hp
  rcases h.2 with ⟨h0, _⟩ | ⟨g, cap, cur, hv, hg, hh, _⟩
  · cases h0
    rfl
  · cases hv
end Go.Proofs.YtpgnkhaanoalhaaGreatDoor

/- Plain facts on numbers: what or, and, shifts and wraps of small uint and int numbers come to. No program. -/
namespace Go.Proofs.YtpgnkhaanoalhaaGreatDoor

theorem or_low (a b i m : Nat) (hm : m = 2 ^ i) (h : b < m) : a * m ||| b = a * m + b := by
  subst hm
  rw [← Nat.shiftLeft_eq, Nat.shiftLeft_add_eq_or_of_lt h]

theorem u64_or_low (a b : Int) (m : Nat) (i : Nat) (hm : m = 2 ^ i) (ha : 0 ≤ a) (hb : 0 ≤ b) (h : b < m) (hs : a * m + b < 18446744073709551616) :
    bits BinOp.or IntKind.u64 (a * m) b = a * m + b := by
  obtain ⟨x, rfl⟩ := Int.eq_ofNat_of_zero_le ha
  obtain ⟨y, rfl⟩ := Int.eq_ofNat_of_zero_le hb
  have e : (x : Int) * (m : Int) = ((x * m : Nat) : Int) := by simp
  rw [e] at hs ⊢
  rw [u64_or_nat (x * m) y (by omega) (by omega), or_low x y i m hm (by omega)]
  omega

theorem u64_or_zero (b : Int) (hb : 0 ≤ b) (h : b < 18446744073709551616) : bits BinOp.or IntKind.u64 0 b = b := by
  have := u64_or_low 0 b 18446744073709551616 64 (by decide) (by omega) hb (by omega) (by omega)
  simpa using this

theorem u64_wrap_id (n : Int) (h : 0 ≤ n) (h' : n < 18446744073709551616) : IntKind.u64.wrap n = n := by
  rw [IntKind.wrap_u64]; omega

theorem and_low (a i m : Nat) (hm : m = 2 ^ i - 1) : a &&& m = a % 2 ^ i := by
  subst hm; exact Nat.and_two_pow_sub_one_eq_mod a i

theorem u64_and_63 (n : Int) (h : 0 ≤ n) (h' : n < 18446744073709551616) : bits BinOp.and IntKind.u64 n 63 = n % 64 := by
  obtain ⟨x, rfl⟩ := Int.eq_ofNat_of_zero_le h
  have e : (63 : Int) = ((63 : Nat) : Int) := rfl
  rw [e, u64_and_nat x 63 (by omega) (by omega), and_low x 6 63 (by decide)]
  omega

theorem i64_and_1 (n : Int) : bits BinOp.and IntKind.i64 n 1 = n % 2 := by
  have h1 : (BitVec.ofInt 64 1).toNat = 2 ^ 1 - 1 := by decide
  have key : (BitVec.ofInt 64 n &&& BitVec.ofInt 64 1).toNat = (n % ((2 ^ 64 : Nat) : Int)).toNat % 2 ^ 1 := by
    rw [BitVec.toNat_and, BitVec.toNat_ofInt, h1, Nat.and_two_pow_sub_one_eq_mod]
  show IntKind.i64.wrap ((BitVec.ofInt 64 n &&& BitVec.ofInt 64 1).toNat : Nat) = n % 2
  rw [key, IntKind.wrap_i64]
  omega

/-- What 'letter' gathers: three bytes in one number. -/
theorem gather3 (x y z : Int) (hx : 0 ≤ x ∧ x < 256) (hy : 0 ≤ y ∧ y < 256) (hz : 0 ≤ z ∧ z < 256) :
    bits BinOp.or IntKind.u64 (IntKind.u64.wrap (bits BinOp.or IntKind.u64 (IntKind.u64.wrap (bits BinOp.or IntKind.u64 0 x * 256)) y * 256)) z = x * 65536 + y * 256 + z := by
  rw [u64_or_zero x (by omega) (by omega), u64_wrap_id (x * 256) (by omega) (by omega)]
  rw [show bits BinOp.or IntKind.u64 (x * 256) y = x * 256 + y from u64_or_low x y 256 8 (by decide) (by omega) (by omega) (by omega) (by omega)]
  rw [u64_wrap_id ((x * 256 + y) * 256) (by omega) (by omega)]
  rw [show bits BinOp.or IntKind.u64 ((x * 256 + y) * 256) z = (x * 256 + y) * 256 + z from u64_or_low (x * 256 + y) z 256 8 (by decide) (by omega) (by omega) (by omega) (by omega)]
  omega
theorem gather2 (x y : Int) (hx : 0 ≤ x ∧ x < 256) (hy : 0 ≤ y ∧ y < 256) :
    IntKind.u64.wrap (bits BinOp.or IntKind.u64 (IntKind.u64.wrap (bits BinOp.or IntKind.u64 0 x * 256)) y * 256) = x * 65536 + y * 256 := by
  rw [u64_or_zero x (by omega) (by omega), u64_wrap_id (x * 256) (by omega) (by omega)]
  rw [show bits BinOp.or IntKind.u64 (x * 256) y = x * 256 + y from u64_or_low x y 256 8 (by decide) (by omega) (by omega) (by omega) (by omega)]
  rw [u64_wrap_id ((x * 256 + y) * 256) (by omega) (by omega)]
  omega
theorem gather1 (x : Int) (hx : 0 ≤ x ∧ x < 256) :
    IntKind.u64.wrap (IntKind.u64.wrap (bits BinOp.or IntKind.u64 0 x * 256) * 256) = x * 65536 := by
  rw [u64_or_zero x (by omega) (by omega), u64_wrap_id (x * 256) (by omega) (by omega), u64_wrap_id (x * 256 * 256) (by omega) (by omega)]
  omega
end Go.Proofs.YtpgnkhaanoalhaaGreatDoor

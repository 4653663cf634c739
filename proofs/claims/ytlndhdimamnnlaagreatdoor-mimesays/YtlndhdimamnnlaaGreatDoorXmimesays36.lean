
import Derived.Test.YtlndhdimamnnlaaGreatDoorXmimesays16
namespace Go.Proofs.YtlndhdimamnnlaaGreatDoor
open Go.RowKit
theorem hex_kinds : ∀ n : Fin 256, isHex (UInt8.ofNat n.val) = true → ((48 ≤ n.val ∧ n.val ≤ 57) ∨ (∃ l : Fin 256, bits .or .u8 (n.val : Int) 32 = (l.val : Int) ∧ 97 ≤ l.val ∧ l.val ≤ 102 ∧ 65 ≤ n.val ∧ n.val ≤ 102 ∧ n.val ≠ 95 ∧ hexv (UInt8.ofNat n.val) = l.val - 87)) := by decide +kernel
theorem hex_of (c : UInt8) (h : isHex c = true) : (48 ≤ c.toNat ∧ c.toNat ≤ 57 ∧ hexv c = c.toNat - 48) ∨ (∃ l : Nat, bits .or .u8 (c.toNat : Int) 32 = (l : Int) ∧ 97 ≤ l ∧ l ≤ 102 ∧ 65 ≤ c.toNat ∧ c.toNat ≠ 95 ∧ hexv c = l - 87) := by
 have hc : UInt8.ofNat c.toNat = c := by simp
 have := hex_kinds ⟨c.toNat, c.toNat_lt⟩
 simp only [hc] at this
 rcases this h with h | ⟨l, h1, h2, h3, h4, h5, h6, h7⟩
 ·exact .inl ⟨h.1, h.2, by unfold hexv; rw [if_pos h.2]⟩
 ·exact .inr ⟨l.val, h1, h2, h3, h4, h6, h7⟩
theorem ret_u64 {x y : Int} (h : x = y) : Ending.returned (.tuple #[.int .u64 x, .nilIface]) = .returned (.tuple #[.int .u64 y, .nilIface]) := by rw [h]
theorem bytes_two (a b : UInt8) (w : World) : ∃ (W1 : World) (cap : Nat), (convert 9 22 (.string ⟨#[a, b]⟩)).run Tryz.prog w = .ok (.slice (some ⟨w.heap.size, 0, none⟩) 2 cap) W1 ∧
  W1.cell? ⟨w.heap.size, 0, none⟩ = some (.int .u8 (a.toNat : Int)) ∧ W1.cell? ⟨w.heap.size, 1, none⟩ = some (.int .u8 (b.toNat : Int)) ∧ Below w.heap.size w W1 := by
 refine ⟨_, _, run_bytes_of_string (P := Tryz.prog) w 9 22 5 ⟨#[a, b]⟩ Tryz.underlying9 Tryz.underlying22 Tryz.underlying5, ?_, ?_, ?_⟩
 ·exact (World.cell?_alloc_mark w.drew _ _ _ 0).trans (by unfold bytesRow; rw [Array.getElem?_append_left (by simp)]; simp)
 ·exact (World.cell?_alloc_mark w.drew _ _ _ 1).trans (by unfold bytesRow; rw [Array.getElem?_append_left (by simp)]; simp)
 ·exact ((Below.refl _ _).drew).alloc (Nat.le_refl _) _
set_option maxHeartbeats 2000000 in
set_option maxRecDepth 100000 in
theorem parse_dd (a b : UInt8) (ha : 48 ≤ a.toNat ∧ a.toNat ≤ 57) (hb : 48 ≤ b.toNat ∧ b.toNat ≤ 57) (w : World) :
  Calls Tryz.prog 137 #[.string ⟨#[a, b]⟩, .int .i64 16, .int .i64 8] w fun e w' => e = .returned (.tuple #[.int .u64 (((a.toNat - 48) * 16 + (b.toNat - 48) : Nat) : Int), .nilIface]) ∧ Below w.heap.size w w' := by
 obtain ⟨W1, cap, hcv, c0, c1, hb⟩ := bytes_two a b w
 have k1a : (48 : Int) ≤ (a.toNat : Int) := by omega
 have k2a : (a.toNat : Int) ≤ 57 := by omega
 have k3a : ((a.toNat : Int) == 95) = false := by rw [beq_eq_false_iff_ne]; omega
 have k1b : (48 : Int) ≤ (b.toNat : Int) := by omega
 have k2b : (b.toNat : Int) ≤ 57 := by omega
 have k3b : ((b.toNat : Int) == 95) = false := by rw [beq_eq_false_iff_ne]; omega
 go_enter Tryz.func137, Tryz.ntmps137
 go_wp2_with (go_at_call 184; refine (Tryz.internal_strconv_lower _ _).mono ?_; rintro e w' ⟨rfl, hw'⟩; have hw'' := hw'.symm; subst hw'')
 refine wp_loop_rounds 3 ?_
 rw [rounds_succ]
 go_wp2_with (go_at_call 184; refine (Tryz.internal_strconv_lower _ _).mono ?_; rintro e w' ⟨rfl, hw'⟩; have hw'' := hw'.symm; subst hw'')
 rw [rounds_succ]
 go_wp2_with (go_at_call 184; refine (Tryz.internal_strconv_lower _ _).mono ?_; rintro e w' ⟨rfl, hw'⟩; have hw'' := hw'.symm; subst hw'')
 rw [rounds_succ]
 go_wp2_with (go_at_call 184; refine (Tryz.internal_strconv_lower _ _).mono ?_; rintro e w' ⟨rfl, hw'⟩; have hw'' := hw'.symm; subst hw'')
 go_ret2
 exact ⟨ret_u64 (by omega), hb⟩
set_option maxHeartbeats 2000000 in
set_option maxRecDepth 100000 in
theorem parse_dl (a b : UInt8) (ha : 48 ≤ a.toNat ∧ a.toNat ≤ 57) (lb : Nat) (hb : bits .or .u8 (b.toNat : Int) 32 = (lb : Int)) (gb : 97 ≤ lb ∧ lb ≤ 102 ∧ 65 ≤ b.toNat ∧ b.toNat ≠ 95) (w : World) :
  Calls Tryz.prog 137 #[.string ⟨#[a, b]⟩, .int .i64 16, .int .i64 8] w fun e w' => e = .returned (.tuple #[.int .u64 (((a.toNat - 48) * 16 + (lb - 87) : Nat) : Int), .nilIface]) ∧ Below w.heap.size w w' := by
 obtain ⟨W1, cap, hcv, c0, c1, hb⟩ := bytes_two a b w
 have k1a : (48 : Int) ≤ (a.toNat : Int) := by omega
 have k2a : (a.toNat : Int) ≤ 57 := by omega
 have k3a : ((a.toNat : Int) == 95) = false := by rw [beq_eq_false_iff_ne]; omega
 have k1b : (48 : Int) ≤ (b.toNat : Int) := by omega
 have k2b : decide ((b.toNat : Int) ≤ 57) = false := by simp; omega
 have k3b : ((b.toNat : Int) == 95) = false := by rw [beq_eq_false_iff_ne]; omega
 have k4b : (97 : Int) ≤ (lb : Int) := by omega
 have k5b : (lb : Int) ≤ 102 := by omega
 go_enter Tryz.func137, Tryz.ntmps137
 go_wp2_with (go_at_call 184; refine (Tryz.internal_strconv_lower _ _).mono ?_; rintro e w' ⟨rfl, hw'⟩; have hw'' := hw'.symm; subst hw'')
 refine wp_loop_rounds 3 ?_
 rw [rounds_succ]
 go_wp2_with (go_at_call 184; refine (Tryz.internal_strconv_lower _ _).mono ?_; rintro e w' ⟨rfl, hw'⟩; have hw'' := hw'.symm; subst hw'')
 rw [rounds_succ]
 go_wp2_with (go_at_call 184; refine (Tryz.internal_strconv_lower _ _).mono ?_; rintro e w' ⟨rfl, hw'⟩; have hw'' := hw'.symm; subst hw'')
 rw [rounds_succ]
 go_wp2_with (go_at_call 184; refine (Tryz.internal_strconv_lower _ _).mono ?_; rintro e w' ⟨rfl, hw'⟩; have hw'' := hw'.symm; subst hw'')
 go_ret2
 exact ⟨ret_u64 (by omega), hb⟩
set_option maxHeartbeats 2000000 in
set_option maxRecDepth 100000 in
theorem parse_ld (a b : UInt8) (la : Nat) (ha : bits .or .u8 (a.toNat : Int) 32 = (la : Int)) (ga : 97 ≤ la ∧ la ≤ 102 ∧ 65 ≤ a.toNat ∧ a.toNat ≠ 95) (hb : 48 ≤ b.toNat ∧ b.toNat ≤ 57) (w : World) :
  Calls Tryz.prog 137 #[.string ⟨#[a, b]⟩, .int .i64 16, .int .i64 8] w fun e w' => e = .returned (.tuple #[.int .u64 (((la - 87) * 16 + (b.toNat - 48) : Nat) : Int), .nilIface]) ∧ Below w.heap.size w w' := by
 obtain ⟨W1, cap, hcv, c0, c1, hb⟩ := bytes_two a b w
 have k1a : (48 : Int) ≤ (a.toNat : Int) := by omega
 have k2a : decide ((a.toNat : Int) ≤ 57) = false := by simp; omega
 have k3a : ((a.toNat : Int) == 95) = false := by rw [beq_eq_false_iff_ne]; omega
 have k4a : (97 : Int) ≤ (la : Int) := by omega
 have k5a : (la : Int) ≤ 102 := by omega
 have k1b : (48 : Int) ≤ (b.toNat : Int) := by omega
 have k2b : (b.toNat : Int) ≤ 57 := by omega
 have k3b : ((b.toNat : Int) == 95) = false := by rw [beq_eq_false_iff_ne]; omega
 go_enter Tryz.func137, Tryz.ntmps137
 go_wp2_with (go_at_call 184; refine (Tryz.internal_strconv_lower _ _).mono ?_; rintro e w' ⟨rfl, hw'⟩; have hw'' := hw'.symm; subst hw'')
 refine wp_loop_rounds 3 ?_
 rw [rounds_succ]
 go_wp2_with (go_at_call 184; refine (Tryz.internal_strconv_lower _ _).mono ?_; rintro e w' ⟨rfl, hw'⟩; have hw'' := hw'.symm; subst hw'')
 rw [rounds_succ]
 go_wp2_with (go_at_call 184; refine (Tryz.internal_strconv_lower _ _).mono ?_; rintro e w' ⟨rfl, hw'⟩; have hw'' := hw'.symm; subst hw'')
 rw [rounds_succ]
 go_wp2_with (go_at_call 184; refine (Tryz.internal_strconv_lower _ _).mono ?_; rintro e w' ⟨rfl, hw'⟩; have hw'' := hw'.symm; subst hw'')
 go_ret2
 exact ⟨ret_u64 (by omega), hb⟩
set_option maxHeartbeats 2000000 in
set_option maxRecDepth 100000 in
theorem parse_ll (a b : UInt8) (la : Nat) (ha : bits .or .u8 (a.toNat : Int) 32 = (la : Int)) (ga : 97 ≤ la ∧ la ≤ 102 ∧ 65 ≤ a.toNat ∧ a.toNat ≠ 95) (lb : Nat) (hb : bits .or .u8 (b.toNat : Int) 32 = (lb : Int)) (gb : 97 ≤ lb ∧ lb ≤ 102 ∧ 65 ≤ b.toNat ∧ b.toNat ≠ 95) (w : World) :
  Calls Tryz.prog 137 #[.string ⟨#[a, b]⟩, .int .i64 16, .int .i64 8] w fun e w' => e = .returned (.tuple #[.int .u64 (((la - 87) * 16 + (lb - 87) : Nat) : Int), .nilIface]) ∧ Below w.heap.size w w' := by
 obtain ⟨W1, cap, hcv, c0, c1, hb⟩ := bytes_two a b w
 have k1a : (48 : Int) ≤ (a.toNat : Int) := by omega
 have k2a : decide ((a.toNat : Int) ≤ 57) = false := by simp; omega
 have k3a : ((a.toNat : Int) == 95) = false := by rw [beq_eq_false_iff_ne]; omega
 have k4a : (97 : Int) ≤ (la : Int) := by omega
 have k5a : (la : Int) ≤ 102 := by omega
 have k1b : (48 : Int) ≤ (b.toNat : Int) := by omega
 have k2b : decide ((b.toNat : Int) ≤ 57) = false := by simp; omega
 have k3b : ((b.toNat : Int) == 95) = false := by rw [beq_eq_false_iff_ne]; omega
 have k4b : (97 : Int) ≤ (lb : Int) := by omega
 have k5b : (lb : Int) ≤ 102 := by omega
 go_enter Tryz.func137, Tryz.ntmps137
 go_wp2_with (go_at_call 184; refine (Tryz.internal_strconv_lower _ _).mono ?_; rintro e w' ⟨rfl, hw'⟩; have hw'' := hw'.symm; subst hw'')
 refine wp_loop_rounds 3 ?_
 rw [rounds_succ]
 go_wp2_with (go_at_call 184; refine (Tryz.internal_strconv_lower _ _).mono ?_; rintro e w' ⟨rfl, hw'⟩; have hw'' := hw'.symm; subst hw'')
 rw [rounds_succ]
 go_wp2_with (go_at_call 184; refine (Tryz.internal_strconv_lower _ _).mono ?_; rintro e w' ⟨rfl, hw'⟩; have hw'' := hw'.symm; subst hw'')
 rw [rounds_succ]
 go_wp2_with (go_at_call 184; refine (Tryz.internal_strconv_lower _ _).mono ?_; rintro e w' ⟨rfl, hw'⟩; have hw'' := hw'.symm; subst hw'')
 go_ret2
 exact ⟨ret_u64 (by omega), hb⟩
theorem parse_hex (a b : UInt8) (ha : isHex a = true) (hb : isHex b = true) (w : World) :
  Calls Tryz.prog 137 #[.string ⟨#[a, b]⟩, .int .i64 16, .int .i64 8] w fun e w' => e = .returned (.tuple #[.int .u64 ((hexv a * 16 + hexv b : Nat) : Int), .nilIface]) ∧ Below w.heap.size w w' := by
 rcases hex_of a ha with ⟨h1, h2, h3⟩ | ⟨la, h1, h2, hB, hC, hD, h3⟩ <;> rcases hex_of b hb with ⟨k1, k2, k3⟩ | ⟨lb, k1, k2, kB, kC, kD, k3⟩ <;> rw [h3, k3]
 ·exact parse_dd a b ⟨h1, h2⟩ ⟨k1, k2⟩ w
 ·exact parse_dl a b ⟨h1, h2⟩ lb k1 ⟨k2, kB, kC, kD⟩ w
 ·exact parse_ld a b la h1 ⟨h2, hB, hC, hD⟩ ⟨k1, k2⟩ w
 ·exact parse_ll a b la h1 ⟨h2, hB, hC, hD⟩ lb k1 ⟨k2, kB, kC, kD⟩ w
theorem parseUint_hex (a b : UInt8) (ha : isHex a = true) (hb : isHex b = true) (w : World) :
  Calls Tryz.prog 90 #[.string ⟨#[a, b]⟩, .int .i64 16, .int .i64 8] w fun e w' => e = .returned (.tuple #[.int .u64 ((hexv a * 16 + hexv b : Nat) : Int), .nilIface]) ∧ Below w.heap.size w w' := by
 go_enter Tryz.func90, Tryz.ntmps90
 go_wp2_with fail
 refine (parse_hex a b ha hb w).mono ?_
 rintro e w' ⟨rfl, h⟩
 go_wp2
 go_ret2
 exact ⟨rfl, h⟩
end Go.Proofs.YtlndhdimamnnlaaGreatDoor


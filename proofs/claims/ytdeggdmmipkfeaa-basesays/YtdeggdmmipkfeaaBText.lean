/- The reference's BaseText answers the letters of the bytes, in lines; the world is as it was. Conditions: the bytes lie there, at most 4000. -/
import Derived.Test.YtdeggdmmipkfeaaArgs
import Derived.Test.YtdeggdmmipkfeaaPlain3
namespace Go.Proofs.Ytdeggdmmipkfeaa
open Go.RowKit

theorem int_eq {k : IntKind} {a b : Int} (h : a = b) : Value.int k a = Value.int k b := by rw [h]
theorem str_push (X : List UInt8) (c : UInt8) : Value.string ((⟨X.toArray⟩ : ByteArray) ++ ⟨#[c]⟩) = Value.string ⟨(X ++ [c]).toArray⟩ := by
  congr 1
theorem str_two (X : List UInt8) (c d : UInt8) : Value.string ((⟨X.toArray⟩ : ByteArray) ++ ⟨#[c, d]⟩) = Value.string ⟨(X ++ [c, d]).toArray⟩ := by
  congr 1
theorem abcB_cut : ∀ S : Fin 64, abcB.extract S.val (S.val + 1) = ⟨#[abc.getD S.val 0]⟩ := by decide +kernel
theorem str_slice (X : List UInt8) (S : Nat) (h : S < 64) : Value.string ((⟨X.toArray⟩ : ByteArray) ++ abcB.extract S (S + 1)) = Value.string ⟨(X ++ [abc.getD S 0]).toArray⟩ := by
  rw [abcB_cut ⟨S, h⟩]
  exact str_push X _

theorem btext_nil (p : Option Addr) (c : Nat) (w : World) :
    Calls Try.prog 12 #[.slice p 0 c] w fun e w' => e = .returned (.string ⟨#[]⟩) ∧ w' = w := by
  go_enter Try.func12, Try.ntmps12
  go_wp2
  refine wp_loop_rounds 1 ?_
  rw [rounds_succ]
  go_wp2
  go_ret
  exact ⟨rfl, rfl⟩

set_option maxHeartbeats 4000000 in
theorem btext_some (b o c : Nat) (L : List UInt8) (w : World) (h0 : L ≠ []) (hn : L.length ≤ 4000)
    (hc : ∀ i, i < L.length → w.cell? ⟨b, o + i, none⟩ = some (.int .u8 ((L.getD i 0).toNat : Int))) :
    Calls Try.prog 12 #[.slice (some ⟨b, o, none⟩) L.length c] w fun e w' => e = .returned (.string ⟨(encode L).toArray⟩) ∧ w' = w := by
  have hand := i64_and_1
  obtain ⟨n, hL⟩ : ∃ n, n = L.length := ⟨_, rfl⟩
  rw [← hL] at hn hc ⊢
  have h1 : 1 ≤ n := by rw [hL]; exact List.length_pos_iff.2 h0
  have HL : Hid (n = L.length) := hL
  clear hL
  go_enter Try.func12, Try.ntmps12
  go_wp2
  go_loop [3, 4] (fun ov av => ∃ j : Nat, j ≤ (n + 2) / 3 ∧ av = .int .i64 ((3 * j : Nat) : Int) ∧ ov = .string ⟨(text L (4 * j)).toArray⟩) (fun _ av => n + 3 - (intOf av).toNat)
  case atStart => exact ⟨0, Nat.zero_le _, rfl, rfl⟩
  case round =>
    obtain ⟨j, hj, rfl, rfl⟩ := hrel
    have hlen := text_length L (4 * j)
    by_cases hlt : 3 * j < n
    · have hT : (trio L (4 * j)).length = min 3 (n - 3 * j) := by
        unfold trio; rw [List.length_take, List.length_drop, ← HL.out, show 4 * j / 4 * 3 = 3 * j from by omega]
      have hcT : ∀ q, q < (trio L (4 * j)).length → w.cell? ⟨b, o + (3 * j + q), none⟩ = some (.int .u8 (((trio L (4 * j)).getD q 0).toNat : Int)) := by
        intro q hq
        rw [hT] at hq
        rw [hc (3 * j + q) (by omega), trio_getD L (4 * j) q (by omega), show 4 * j / 4 * 3 = 3 * j from by omega]
      clear hc
      have HE : Hid (∀ k, k < 4 → encAt L (4 * j + k) = letT (trio L (4 * j)) k) := fun k hk => encAt_four L j k hk
      have hT3 : (trio L (4 * j)).length ≤ 3 := by omega
      have hT4 : (trio L (4 * j)).length ≤ n - 3 * j := by omega
      have hT5 : n - 3 * j ≤ (trio L (4 * j)).length ∨ 3 ≤ (trio L (4 * j)).length := by omega
      clear hT
      generalize trio L (4 * j) = T at *
      by_cases hs : 0 < j ∧ j % 19 = 0
      · have hb : (3 * (j : Int) % 57 == 0) = true := by rw [beq_iff_eq]; omega
        have hj0 : 0 < j := hs.1
        have HX : Hid (tx L j 0 = text L (4 * j) ++ [13, 10]) := tx_zero_sep L j hs
        clear hs
        go_wp2_with fail
        go_loop [3, 25] (fun ov kv => ∃ k : Nat, k ≤ 4 ∧ kv = .int .i64 k ∧ ov = .string ⟨(tx L j k).toArray⟩) (fun _ kv => 4 - (intOf kv).toNat)
        case atStart => exact ⟨0, by omega, rfl, by rw [HX.out]; exact str_two _ 13 10⟩
        case round =>
          obtain ⟨k, hk, rfl, rfl⟩ := hrel
          have hxl := tx_length L j k
          by_cases hk4 : k < 4
          · have HTX : Hid (tx L j (k + 1) = tx L j k ++ [letT T k]) := by unfold Hid; rw [tx, HE.out k hk4]
            have hxl' : (tx L j k).length ≤ 20000 := by omega
            clear hxl
            generalize tx L j k = X at *
            go_wp2_with fail
            go_loop [6, 7, 8] (fun vv tv bv => ∃ m : Nat, m ≤ 6 ∧ bv = .int .i64 ((6 * k + m : Nat) : Int) ∧ vv = .int .i64 ((bitsV T k m : Nat) : Int) ∧ tv = .bool (thereB T k m)) (fun _ _ bv => 6 * k + 6 - (intOf bv).toNat)
            case atStart => exact ⟨0, by omega, rfl, rfl, by simp [thereB]⟩
            case round =>
              obtain ⟨m, hm, rfl, rfl, rfl⟩ := hrel
              have hvl : bitsV T k m < 64 := Nat.lt_of_lt_of_le (bitsV_lt T k m) (Nat.pow_le_pow_right (by decide) hm)
              by_cases hm6 : m < 6
              · have HB : Hid (bitsV T k (m + 1) = bitsV T k m * 2 + bitAt T (6 * k + m)) := rfl
                by_cases hb8 : (6 * k + m) / 8 < T.length
                · have hcell := hcT ((6 * k + m) / 8) hb8
                  have hin : 3 * (j : Int) + (6 * (k : Int) + (m : Int)) / 8 < (n : Int) := by omega
                  have HY : Hid (thereB T k (m + 1) = true) := there_yes T k m hb8
                  have HA : Hid (bitAt T (6 * k + m) = (T.getD ((6 * k + m) / 8) 0).toNat / 2 ^ (7 - (6 * k + m) % 8) % 2) := rfl
                  clear hcT hb8
                  have hx256 := (T.getD ((6 * k + m) / 8) 0).toNat_lt
                  generalize (T.getD ((6 * k + m) / 8) 0).toNat = x at *
                  generalize bitsV T k m = V at *
                  go_wp2
                  go_round
                  case rel => exact ⟨m + 1, by omega, by go_num, by rw [HB.out, HA.out]; exact int_eq (by simp), by rw [HY.out]⟩
                  case measure => simp [intOf]; omega
                · have hin : ¬ 3 * (j : Int) + (6 * (k : Int) + (m : Int)) / 8 < (n : Int) := by omega
                  have HY : Hid (thereB T k m = thereB T k (m + 1)) := there_no T k m hb8 hm6
                  have HA : Hid (bitAt T (6 * k + m) = 0) := bitAt_none T _ hb8
                  clear hcT hb8
                  generalize bitsV T k m = V at *
                  go_wp2
                  go_round
                  case rel => exact ⟨m + 1, by omega, by go_num, by rw [HB.out, HA.out]; exact int_eq (by simp), by rw [HY.out]⟩
                  case measure => simp [intOf]; omega
              · obtain rfl : m = 6 := by omega
                clear hcT
                by_cases hth : thereB T k 6 = true
                · have HL6 : Hid (letT T k = abc.getD (bitsV T k 6) 0) := letT_there T k hth hk4
                  generalize bitsV T k 6 = S at *
                  go_wp2
                  go_round
                  case rel => exact ⟨k + 1, by omega, by go_num, by rw [HTX.out, HL6.out]; exact str_slice X S hvl⟩
                  case measure => simp [intOf]; omega
                · rw [Bool.not_eq_true] at hth
                  have HL6 : Hid (letT T k = 61) := letT_none T k hth
                  go_wp2
                  go_round
                  case rel => exact ⟨k + 1, by omega, by go_num, by rw [HTX.out, HL6.out]; exact str_push X 61⟩
                  case measure => simp [intOf]; omega
          · obtain rfl : k = 4 := by omega
            clear hcT HX
            go_wp2
            go_round
            case rel => exact ⟨j + 1, by omega, by go_num, by rw [tx_four]⟩
            case measure => simp [intOf]; omega
      · by_cases hj0 : 0 < j
        · have hb : (3 * (j : Int) % 57 == 0) = false := by rw [beq_eq_false_iff_ne]; omega
          have HX : Hid (tx L j 0 = text L (4 * j)) := tx_zero_none L j hs
          clear hs
          go_wp2_with fail
          go_loop [3, 25] (fun ov kv => ∃ k : Nat, k ≤ 4 ∧ kv = .int .i64 k ∧ ov = .string ⟨(tx L j k).toArray⟩) (fun _ kv => 4 - (intOf kv).toNat)
          case atStart => exact ⟨0, by omega, rfl, by rw [HX.out]⟩
          case round =>
            obtain ⟨k, hk, rfl, rfl⟩ := hrel
            have hxl := tx_length L j k
            by_cases hk4 : k < 4
            · have HTX : Hid (tx L j (k + 1) = tx L j k ++ [letT T k]) := by unfold Hid; rw [tx, HE.out k hk4]
              have hxl' : (tx L j k).length ≤ 20000 := by omega
              clear hxl
              generalize tx L j k = X at *
              go_wp2_with fail
              go_loop [6, 7, 8] (fun vv tv bv => ∃ m : Nat, m ≤ 6 ∧ bv = .int .i64 ((6 * k + m : Nat) : Int) ∧ vv = .int .i64 ((bitsV T k m : Nat) : Int) ∧ tv = .bool (thereB T k m)) (fun _ _ bv => 6 * k + 6 - (intOf bv).toNat)
              case atStart => exact ⟨0, by omega, rfl, rfl, by simp [thereB]⟩
              case round =>
                obtain ⟨m, hm, rfl, rfl, rfl⟩ := hrel
                have hvl : bitsV T k m < 64 := Nat.lt_of_lt_of_le (bitsV_lt T k m) (Nat.pow_le_pow_right (by decide) hm)
                by_cases hm6 : m < 6
                · have HB : Hid (bitsV T k (m + 1) = bitsV T k m * 2 + bitAt T (6 * k + m)) := rfl
                  by_cases hb8 : (6 * k + m) / 8 < T.length
                  · have hcell := hcT ((6 * k + m) / 8) hb8
                    have hin : 3 * (j : Int) + (6 * (k : Int) + (m : Int)) / 8 < (n : Int) := by omega
                    have HY : Hid (thereB T k (m + 1) = true) := there_yes T k m hb8
                    have HA : Hid (bitAt T (6 * k + m) = (T.getD ((6 * k + m) / 8) 0).toNat / 2 ^ (7 - (6 * k + m) % 8) % 2) := rfl
                    clear hcT hb8
                    have hx256 := (T.getD ((6 * k + m) / 8) 0).toNat_lt
                    generalize (T.getD ((6 * k + m) / 8) 0).toNat = x at *
                    generalize bitsV T k m = V at *
                    go_wp2
                    go_round
                    case rel => exact ⟨m + 1, by omega, by go_num, by rw [HB.out, HA.out]; exact int_eq (by simp), by rw [HY.out]⟩
                    case measure => simp [intOf]; omega
                  · have hin : ¬ 3 * (j : Int) + (6 * (k : Int) + (m : Int)) / 8 < (n : Int) := by omega
                    have HY : Hid (thereB T k m = thereB T k (m + 1)) := there_no T k m hb8 hm6
                    have HA : Hid (bitAt T (6 * k + m) = 0) := bitAt_none T _ hb8
                    clear hcT hb8
                    generalize bitsV T k m = V at *
                    go_wp2
                    go_round
                    case rel => exact ⟨m + 1, by omega, by go_num, by rw [HB.out, HA.out]; exact int_eq (by simp), by rw [HY.out]⟩
                    case measure => simp [intOf]; omega
                · obtain rfl : m = 6 := by omega
                  clear hcT
                  by_cases hth : thereB T k 6 = true
                  · have HL6 : Hid (letT T k = abc.getD (bitsV T k 6) 0) := letT_there T k hth hk4
                    generalize bitsV T k 6 = S at *
                    go_wp2
                    go_round
                    case rel => exact ⟨k + 1, by omega, by go_num, by rw [HTX.out, HL6.out]; exact str_slice X S hvl⟩
                    case measure => simp [intOf]; omega
                  · rw [Bool.not_eq_true] at hth
                    have HL6 : Hid (letT T k = 61) := letT_none T k hth
                    go_wp2
                    go_round
                    case rel => exact ⟨k + 1, by omega, by go_num, by rw [HTX.out, HL6.out]; exact str_push X 61⟩
                    case measure => simp [intOf]; omega
            · obtain rfl : k = 4 := by omega
              clear hcT HX
              go_wp2
              go_round
              case rel => exact ⟨j + 1, by omega, by go_num, by rw [tx_four]⟩
              case measure => simp [intOf]; omega
        · have hd : decide ((0 : Int) < 3 * (j : Int)) = false := by simp; omega
          have HX : Hid (tx L j 0 = text L (4 * j)) := tx_zero_none L j hs
          clear hs
          go_wp2_with fail
          go_loop [3, 25] (fun ov kv => ∃ k : Nat, k ≤ 4 ∧ kv = .int .i64 k ∧ ov = .string ⟨(tx L j k).toArray⟩) (fun _ kv => 4 - (intOf kv).toNat)
          case atStart => exact ⟨0, by omega, rfl, by rw [HX.out]⟩
          case round =>
            obtain ⟨k, hk, rfl, rfl⟩ := hrel
            have hxl := tx_length L j k
            by_cases hk4 : k < 4
            · have HTX : Hid (tx L j (k + 1) = tx L j k ++ [letT T k]) := by unfold Hid; rw [tx, HE.out k hk4]
              have hxl' : (tx L j k).length ≤ 20000 := by omega
              clear hxl
              generalize tx L j k = X at *
              go_wp2_with fail
              go_loop [6, 7, 8] (fun vv tv bv => ∃ m : Nat, m ≤ 6 ∧ bv = .int .i64 ((6 * k + m : Nat) : Int) ∧ vv = .int .i64 ((bitsV T k m : Nat) : Int) ∧ tv = .bool (thereB T k m)) (fun _ _ bv => 6 * k + 6 - (intOf bv).toNat)
              case atStart => exact ⟨0, by omega, rfl, rfl, by simp [thereB]⟩
              case round =>
                obtain ⟨m, hm, rfl, rfl, rfl⟩ := hrel
                have hvl : bitsV T k m < 64 := Nat.lt_of_lt_of_le (bitsV_lt T k m) (Nat.pow_le_pow_right (by decide) hm)
                by_cases hm6 : m < 6
                · have HB : Hid (bitsV T k (m + 1) = bitsV T k m * 2 + bitAt T (6 * k + m)) := rfl
                  by_cases hb8 : (6 * k + m) / 8 < T.length
                  · have hcell := hcT ((6 * k + m) / 8) hb8
                    have hin : 3 * (j : Int) + (6 * (k : Int) + (m : Int)) / 8 < (n : Int) := by omega
                    have HY : Hid (thereB T k (m + 1) = true) := there_yes T k m hb8
                    have HA : Hid (bitAt T (6 * k + m) = (T.getD ((6 * k + m) / 8) 0).toNat / 2 ^ (7 - (6 * k + m) % 8) % 2) := rfl
                    clear hcT hb8
                    have hx256 := (T.getD ((6 * k + m) / 8) 0).toNat_lt
                    generalize (T.getD ((6 * k + m) / 8) 0).toNat = x at *
                    generalize bitsV T k m = V at *
                    go_wp2
                    go_round
                    case rel => exact ⟨m + 1, by omega, by go_num, by rw [HB.out, HA.out]; exact int_eq (by simp), by rw [HY.out]⟩
                    case measure => simp [intOf]; omega
                  · have hin : ¬ 3 * (j : Int) + (6 * (k : Int) + (m : Int)) / 8 < (n : Int) := by omega
                    have HY : Hid (thereB T k m = thereB T k (m + 1)) := there_no T k m hb8 hm6
                    have HA : Hid (bitAt T (6 * k + m) = 0) := bitAt_none T _ hb8
                    clear hcT hb8
                    generalize bitsV T k m = V at *
                    go_wp2
                    go_round
                    case rel => exact ⟨m + 1, by omega, by go_num, by rw [HB.out, HA.out]; exact int_eq (by simp), by rw [HY.out]⟩
                    case measure => simp [intOf]; omega
                · obtain rfl : m = 6 := by omega
                  clear hcT
                  by_cases hth : thereB T k 6 = true
                  · have HL6 : Hid (letT T k = abc.getD (bitsV T k 6) 0) := letT_there T k hth hk4
                    generalize bitsV T k 6 = S at *
                    go_wp2
                    go_round
                    case rel => exact ⟨k + 1, by omega, by go_num, by rw [HTX.out, HL6.out]; exact str_slice X S hvl⟩
                    case measure => simp [intOf]; omega
                  · rw [Bool.not_eq_true] at hth
                    have HL6 : Hid (letT T k = 61) := letT_none T k hth
                    go_wp2
                    go_round
                    case rel => exact ⟨k + 1, by omega, by go_num, by rw [HTX.out, HL6.out]; exact str_push X 61⟩
                    case measure => simp [intOf]; omega
            · obtain rfl : k = 4 := by omega
              clear hcT HX
              go_wp2
              go_round
              case rel => exact ⟨j + 1, by omega, by go_num, by rw [tx_four]⟩
              case measure => simp [intOf]; omega
    · have hfin : Hid (encode L = text L (4 * j)) := by
        unfold Hid encode; rw [← HL.out, show (n + 2) / 3 * 4 = 4 * j from by omega]
      go_wp2
      go_ret
      exact ⟨by rw [hfin.out]; rfl, rfl⟩

theorem btext_any (p : Option Addr) (n c : Nat) (L : List UInt8) (en : n = L.length) (w : World) (hn : L.length ≤ 4000) (hr : BRow w p L) :
    Calls Try.prog 12 #[.slice p n c] w fun e w' => e = .returned (.string ⟨(encode L).toArray⟩) ∧ w' = w := by
  subst en
  by_cases h0 : L = []
  · subst h0
    exact btext_nil p c w
  · obtain ⟨b, o, rfl, hc⟩ := hr h0
    exact btext_some b o c L w h0 hn hc
end Go.Proofs.Ytdeggdmmipkfeaa

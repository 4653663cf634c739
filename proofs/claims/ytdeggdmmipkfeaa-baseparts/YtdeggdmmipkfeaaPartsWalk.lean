/- The walk of the law BaseParts: it answers true, and nothing that was there is changed. -/
import Derived.Test.YtdeggdmmipkfeaaArgs
namespace Go.Proofs.Ytdeggdmmipkfeaa
open Go.RowKit

theorem at_any (k : Int) (n : Nat) (nn : Int) (en : nn = n) (w : World) (hn : 0 < n) (hn' : n ≤ 1000000) :
    Calls Try.prog 13 #[.int .i64 k, .int .i64 nn] w fun e w' => ∃ r : Nat, r < n ∧ e = .returned (.int .i64 (r : Int)) ∧ w' = w := by
  subst en
  have h1 : (0 : Int) < (n : Int) := by omega
  have h2 : (n : Int) ≤ 1000000 := by omega
  have hne : ¬ (n : Int) = 0 := by omega
  have hb1 := Int.tmod_lt_of_pos k h1
  have hb2 : -(n : Int) < k.tmod n := by
    have := Int.tmod_lt_of_pos (-k) h1
    rw [Int.neg_tmod] at this
    omega
  by_cases hneg : k.tmod n < 0
  · go_enter Try.func13, Try.ntmps13
    go_wp2
    go_ret
    exact ⟨(k.tmod n + n).toNat, by omega, ret_i64 (by omega), rfl⟩
  · go_enter Try.func13, Try.ntmps13
    go_wp2
    go_ret
    exact ⟨(k.tmod n).toNat, by omega, ret_i64 (by omega), rfl⟩
set_option maxHeartbeats 1000000 in
theorem parts_many (p : Option Addr) (n c : Nat) (k : Int) (w : World) (hm : n ≤ maxLen) (h : 4000 < n) :
    Calls Try.prog 5 #[.slice p n c, .int .i64 k] w fun e w' => e = .returned (.bool true) ∧ Below w.heap.size w w' := by
  go_enter Try.func5, Try.ntmps5
  go_wp2_with fail
  refine (write_many p n c _ h hm).mono ?_
  rintro e w1 ⟨rfl, hw1⟩
  have hw1' := hw1.symm
  subst hw1'
  go_wp2_with fail
  refine (lettered_any _).mono ?_
  rintro e w2 ⟨rfl, hb2⟩
  go_wp2_with fail
  refine (lettered_any _).mono ?_
  rintro e w3 ⟨rfl, hb3⟩
  go_wp2
  go_ret
  exact ⟨rfl, hb2.trans (hb3.mono hb2.size)⟩

set_option maxHeartbeats 1000000 in
theorem parts_small (p : Option Addr) (c : Nat) (L : List UInt8) (k : Int) (w : World) (h : L.length < 2) (hcap : L.length ≤ c) (hr : BRow w p L) :
    Calls Try.prog 5 #[.slice p L.length c, .int .i64 k] w fun e w' => e = .returned (.bool true) ∧ Below w.heap.size w w' := by
  have h' : (L.length : Int) < 2 := by omega
  go_enter Try.func5, Try.ntmps5
  go_wp2_with fail
  refine (write_any p _ c L rfl _ (by omega) hcap hr).mono ?_
  rintro e w1 ⟨rfl, hb1⟩
  go_wp2_with fail
  refine (lettered_any _).mono ?_
  rintro e w2 ⟨rfl, hb2⟩
  go_wp2_with fail
  refine (lettered_any _).mono ?_
  rintro e w3 ⟨rfl, hb3⟩
  have hb := (hb1.trans (hb2.mono hb1.size)).trans (hb3.mono (Nat.le_trans hb1.size hb2.size))
  go_wp2
  go_ret
  exact ⟨rfl, hb⟩

set_option maxHeartbeats 2000000 in
theorem parts_some (b o c : Nat) (L : List UInt8) (k : Int) (w : World) (h2 : 2 ≤ L.length) (hn : L.length ≤ 4000) (hcap : L.length ≤ c)
    (hc : ∀ i, i < L.length → w.cell? ⟨b, o + i, none⟩ = some (.int .u8 ((L.getD i 0).toNat : Int))) :
    Calls Try.prog 5 #[.slice (some ⟨b, o, none⟩) L.length c, .int .i64 k] w fun e w' => e = .returned (.bool true) ∧ Below w.heap.size w w' := by
  have hr : BRow w (some ⟨b, o, none⟩) L := fun _ => ⟨b, o, rfl, hc⟩
  have hdrop := BRow.drop hc
  have hl0 : (2 : Int) ≤ (L.length : Int) := by omega
  clear hc
  go_enter Try.func5, Try.ntmps5
  go_wp2_with fail
  refine (write_any _ _ c L rfl _ (by omega) hcap hr).mono ?_
  rintro e w1 ⟨rfl, hb1⟩
  go_wp2_with fail
  refine (lettered_any _).mono ?_
  rintro e w2 ⟨rfl, hb2⟩
  have hbw : Below w.heap.size w w2 := hb1.trans (hb2.mono hb1.size)
  clear hb1 hb2
  go_wp2_with fail
  refine (at_any _ ((L.length - 1) / 57 + 1) _ (by omega) _ (by omega) (by omega)).mono ?_
  rintro e w3 ⟨r, hrlt, rfl, hw3⟩
  have hw3' := hw3.symm
  subst hw3'
  have hr57 : 57 * r < L.length := by omega
  clear hrlt
  go_wp2_with fail
  have hpar := encode_parts L r hr57
  have ht1 : (L.take (57 * r)).length = 57 * r := by rw [List.length_take]; omega
  have ht2 : (L.drop (57 * r)).length = L.length - 57 * r := by rw [List.length_drop]
  have hx := encode_length (L.take (57 * r))
  have hy := encode_length (L.drop (57 * r))
  refine (write_any _ _ c (L.take (57 * r)) ht1.symm _ (by omega) (by omega) ((hr.below hbw).take _)).mono ?_
  rintro e w4 ⟨rfl, hb4⟩
  have hbw4 : Below w.heap.size w w4 := hbw.trans (hb4.mono hbw.size)
  clear hb4
  generalize encode (L.take (57 * r)) = X at *
  have HT1 : Hid ((L.take (57 * r)).length = 57 * r) := ht1
  have HT2 : Hid ((L.drop (57 * r)).length = L.length - 57 * r) := ht2
  clear ht1 ht2
  have hx' : X.length ≤ 20000 := by have := HT1.out; omega
  have hy' : (encode (L.drop (57 * r))).length ≤ 20000 := by have := HT2.out; omega
  clear hx hy
  have HP : Hid (encode L = X ++ ((if 0 < r then [13, 10] else []) ++ encode (L.drop (57 * r)))) := hpar
  clear hpar
  go_wp2_with fail
  refine (write_any _ _ _ (L.drop (57 * r)) HT2.out.symm _ (by have := HT2.out; omega) (by have := HT2.out; omega) ((hdrop (57 * r)).below hbw4)).mono ?_
  rintro e w5 ⟨rfl, hb5⟩
  have hbw5 : Below w.heap.size w w5 := hbw4.trans (hb5.mono hbw4.size)
  clear hb5 hbw hbw4 hdrop hr
  generalize encode (L.drop (57 * r)) = Y at *
  by_cases hr0 : 0 < r
  · go_wp2
    go_ret
    refine ⟨ret_bool ?_, hbw5⟩
    rw [beq_iff_eq, HP.out, if_pos hr0, ByteArray.toList_eq]
    simp
  · obtain rfl : r = 0 := by omega
    go_wp2
    go_ret
    refine ⟨ret_bool ?_, hbw5⟩
    rw [beq_iff_eq, HP.out, if_neg hr0, ByteArray.toList_eq]
    simp

/-- BaseParts. -/
theorem parts_any (p : Option Addr) (n c : Nat) (zs : List Int) (k : Int) (w : World) (h : IsRow .u8 w p n c zs) :
    Calls Try.prog 5 #[.slice p n c, .int .i64 k] w fun e w' => e = .returned (.bool true) ∧ Below w.heap.size w w' := by
  obtain ⟨L, rfl, hcap, hcm, _, hr⟩ := isRow_bytes h
  by_cases h4 : 4000 < L.length
  · exact parts_many p _ c k w (Nat.le_trans hcap hcm) h4
  · by_cases h2 : L.length < 2
    · exact parts_small p c L k w h2 hcap hr
    · obtain ⟨b, o, rfl, hc⟩ := hr (fun e => by rw [e] at h2; simp at h2)
      exact parts_some b o c L k w (by omega) (by omega) hcap hc
end Go.Proofs.Ytdeggdmmipkfeaa

/- slices.Index of a byte in bytes; conversions; small facts for reading fields. The world is as it was. Conditions: the bytes lie there. -/
import Derived.Test.YtehiaenicfmpbaaDoorCommon
import Derived.Test.YtehiaenicfmpbaaDoorPlainP
import Derived.Test.YtehiaenicfmpbaaDoorShelf
import Derived.Test.YtehiaenicfmpbaaDoorCutAt
namespace Go.Proofs.YtehiaenicfmpbaaDoor
open Go.RowKit

set_option maxHeartbeats 1000000 in
theorem index_some (b o n c : Nat) (L : List UInt8) (en : n = L.length) (d : UInt8) (dd : Int) (ed : dd = (d.toNat : Int)) (w : World) (h0 : 1 ≤ n) (hn : n ≤ 1000000000)
    (hc : ∀ i, i < n → w.cell? ⟨b, o + i, none⟩ = some (.int .u8 ((L.getD i 0).toNat : Int))) :
    Calls Tryd.prog 107 #[.slice (some ⟨b, o, none⟩) n c, .int .u8 dd] w fun e w' => e = .returned (.int .i64 (whereB d L)) ∧ w' = w := by
  subst ed
  have HL : Hid (n = L.length) := en
  clear en
  go_enter Tryd.func107, Tryd.ntmps107
  go_wp2
  go_loop [8] (fun iv => ∃ k : Nat, k ≤ n ∧ iv = .int .i64 k ∧ Hid (whereB d L = if whereB d (L.drop k) = -1 then -1 else whereB d (L.drop k) + k)) (fun iv => n - (intOf iv).toNat)
  case atStart => exact ⟨0, Nat.zero_le _, rfl, by unfold Hid; rw [List.drop_zero]; split <;> omega⟩
  case round =>
    obtain ⟨k, hk, rfl, HK⟩ := hrel
    by_cases hlt : k < n
    · have h1 := hc k hlt
      clear hc
      have hkl : k < L.length := by rw [← HL.out]; exact hlt
      by_cases he : L.getD k 0 = d
      · have HN : Hid (whereB d L = (k : Int)) := by
          have e : whereB d (L.drop k) = 0 := by
            rw [List.drop_eq_getElem_cons hkl, whereB, cutB, if_pos (by simpa [List.getD_eq_getElem?_getD, List.getElem?_eq_getElem hkl] using he)]; rfl
          unfold Hid
          rw [HK.out, e]
          simp
        rw [he] at h1
        have hbe : ((d.toNat : Int) == (d.toNat : Int)) = true := by simp
        clear HK
        go_wp2
        go_ret
        exact ⟨by rw [HN.out]; rfl, rfl⟩
      · have HN : Hid (whereB d L = if whereB d (L.drop (k + 1)) = -1 then -1 else whereB d (L.drop (k + 1)) + ((k + 1 : Nat) : Int)) := by
          have hne : ¬ L[k] = d := by simpa [List.getD_eq_getElem?_getD, List.getElem?_eq_getElem hkl] using he
          unfold Hid
          rw [HK.out, List.drop_eq_getElem_cons hkl]
          cases hcu : cutB d (L.drop (k + 1)) with
          | none => simp [whereB, cutB, hne, hcu]
          | some x =>
            have a1 : ¬ ((x.1.length : Int) = -1) := by omega
            have a2 : ¬ (((x.1.length + 1 : Nat) : Int) = -1) := by omega
            simp only [whereB, cutB, hne, hcu, if_false, Option.map_some, List.length_cons]
            rw [if_neg a2, if_neg a1]
            omega
        have hbe : ((d.toNat : Int) == ((L.getD k 0).toNat : Int)) = false := by
          rw [beq_eq_false_iff_ne]
          intro e
          apply he
          have : d.toNat = (L.getD k 0).toNat := by omega
          exact (UInt8.toNat_inj.1 this).symm
        clear HK he
        generalize L.getD k 0 = x at *
        go_wp2
        go_round
        case rel => exact ⟨k + 1, by omega, by go_num, HN⟩
        case measure => simp [intOf]; omega
    · obtain rfl : k = n := by omega
      have HN : Hid (whereB d L = -1) := by
        unfold Hid
        rw [HK.out, HL.out, List.drop_length]
        rfl
      clear hc
      go_wp2
      go_ret
      exact ⟨by rw [HN.out]; rfl, rfl⟩

theorem index_nil (p : Option Addr) (c : Nat) (d : UInt8) (w : World) :
    Calls Tryd.prog 107 #[.slice p 0 c, .int .u8 (d.toNat : Int)] w fun e w' => e = .returned (.int .i64 (-1)) ∧ w' = w := by
  go_enter Tryd.func107, Tryd.ntmps107
  go_wp2
  refine wp_loop_rounds 1 ?_
  rw [rounds_succ]
  go_wp2
  go_ret
  exact ⟨rfl, rfl⟩
end Go.Proofs.YtehiaenicfmpbaaDoor

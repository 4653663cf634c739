/- The library's sets of ASCII bytes: what is in one. No function of the program. -/
import Derived.Test.YtnfidloiediflabDoorCommon
import Derived.Test.YtnfidloiediflabDoorShelf
import Derived.Deep.WholeRow
namespace Go.Proofs.YtnfidloiediflabDoor
open Go.RowKit

theorem strt_eq {s : ByteArray} {l : List UInt8} (h : s.data.toList = l) : Value.string s = .string ⟨l.toArray⟩ := by
  subst h
  rfl

theorem ba_tail (t : ByteArray) (n : Nat) (h : t.size = n + 1) : ∃ (c : UInt8) (t8 : ByteArray), t[n] = c ∧ t.extract 0 n = t8 ∧ t8.size = n ∧ t.data.toList = t8.data.toList ++ [c] := by
  have hl : t.data.toList.length = n + 1 := by rw [Array.length_toList]; exact h
  refine ⟨_, _, rfl, rfl, ?_, ?_⟩
  · rw [Lib.size_eq, Lib.extract_data, List.length_take]; simp; omega
  · rw [Lib.extract_data, List.drop_zero, Nat.sub_zero]
    conv => lhs; rw [← List.take_append_drop n t.data.toList]
    rw [List.drop_eq_getElem_cons (by omega), List.drop_of_length_le (by omega)]
    rfl
theorem ba_head (t : ByteArray) (n : Nat) (h : t.size = n + 1) : ∃ (c : UInt8) (t8 : ByteArray), t[0] = c ∧ t.extract 1 (n + 1) = t8 ∧ t8.size = n ∧ t.data.toList = c :: t8.data.toList := by
  have hl : t.data.toList.length = n + 1 := by rw [Array.length_toList]; exact h
  refine ⟨_, _, rfl, rfl, ?_, ?_⟩
  · rw [Lib.size_eq, Lib.extract_data, List.length_take]; simp; omega
  · rw [Lib.extract_data, List.take_of_length_le (by rw [List.length_drop]; omega)]
    conv => lhs; rw [← List.drop_zero (l := t.data.toList), List.drop_eq_getElem_cons (by omega)]
    rfl

theorem zero256 (w : World) : (zeroValue 115).run Tryd.prog w = .ok (.agg (Array.replicate 256 (.bool false))) w := by kernel_rfl

theorem in_set (g : Nat) (c : UInt8) (cc : Int) (e : cc = (c.toNat : Int)) (v : Bool) (w : World) (hc : w.cell? ⟨g, c.toNat, none⟩ = some (.bool v)) :
    Calls Tryd.prog 103 #[.pointer (some ⟨g, 0, none⟩), .int .u8 cc] w fun e w' => e = .returned (.bool v) ∧ w' = w := by
  subst e
  have := c.toNat_lt
  go_enter Tryd.func103, Tryd.ntmps103
  go_wp2
  go_ret
  exact ⟨rfl, rfl⟩

end Go.Proofs.YtnfidloiediflabDoor

/- strings.IndexByte as a question: is the byte there? No function of the program. -/
import Derived.Test.YtnfidloiediflabDoorCommon
import Derived.Test.YtnfidloiediflabDoorPlainH
import Derived.Test.YtnfidloiediflabDoorShelf
namespace Go.Proofs.YtnfidloiediflabDoor
open Go.RowKit

theorem dropB (s : ByteArray) (k : Nat) (h : k < s.size) : s.data.toList.drop k = s[k] :: s.data.toList.drop (k + 1) := by
  rw [List.drop_eq_getElem_cons (by simpa using h)]; rfl

theorem ix_any (s : ByteArray) (l : List UInt8) (hs : s.data.toList = l) (c : UInt8) (cc : Int) (e : cc = (c.toNat : Int)) (w : World) :
    Calls Tryd.prog 37 #[.string s, .int .u8 cc] w fun e w' => ∃ i : Int, e = .returned (.int .i64 i) ∧ decide (0 ≤ i) = l.contains c ∧ w' = w := by
  subst e hs
  refine (Tryd.strings_IndexByte s (c.toNat : Int) w).mono ?_
  rintro e w' ⟨rfl, rfl⟩
  refine ⟨_, rfl, ?_, rfl⟩
  rw [indexByte_mem]
  simp

end Go.Proofs.YtnfidloiediflabDoor

/- Two lists of numbers that agree everywhere are one. No program. -/
import Derived.Test.YtnfidloiediflacDoorCommon
namespace Go.Proofs.YtnfidloiediflacDoor
open Go.RowKit

theorem eq_of_getD {xs ys : List Int} {n : Nat} (hx : xs.length = n) (hy : ys.length = n) (h : ∀ j, j < n → xs.getD j 0 = ys.getD j 0) : xs = ys := by
  apply List.ext_getElem (by omega)
  intro i h1 h2
  have := h i (by omega)
  simpa [List.getD_eq_getElem?_getD, List.getElem?_eq_getElem h1, List.getElem?_eq_getElem h2] using this
end Go.Proofs.YtnfidloiediflacDoor

/- string(b) of bytes that lie there. No function of the program. -/
import Derived.Test.YtnfidloiediflabDoorCommon
namespace Go.Proofs.YtnfidloiediflabDoor
open Go.RowKit

theorem conv_bytes (w : World) (p : Option Addr) (n c : Nat) (L : List UInt8) (en : n = L.length) (hr : BRow w p L) (hp : p = none → n = 0 ∧ c = 0) : (convert 42 9 (.slice p n c)).run Tryd.prog w = .ok (.string ⟨L.toArray⟩) w := by
  cases p with
  | none =>
    obtain ⟨h0, rfl⟩ := hp rfl
    subst h0
    obtain rfl : L = [] := List.length_eq_zero_iff.1 en.symm
    exact convert_nil w
  | some a =>
    subst en
    refine run_convert_bytes_back (P := Tryd.prog) w 42 9 5 a c L Tryd.underlying42 Tryd.underlying5 Tryd.underlying9 (fun j hj => ?_)
    obtain ⟨b, o, e, hc⟩ := hr (fun e => by rw [e] at hj; exact absurd hj (by simp))
    obtain rfl := Option.some.inj e
    rw [Addr.add_lit, hc j hj]
    simp [List.getD_eq_getElem?_getD, List.getElem?_eq_getElem hj]

end Go.Proofs.YtnfidloiediflabDoor

/- LinkNone answers true at every two lists of bytes. -/
import Derived.Test.YtnfidloiediflacDoorLNoneLaw
namespace Go.Proofs.YtnfidloiediflacDoor
open Go.RowKit

theorem linkNone_any (q q2 : Option Addr) (n c n2 c2 : Nat) (b d : List UInt8) (en : n = b.length) (en2 : n2 = d.length) (w : World) (HE : LEnv w) (hr : BRow w q b) (hr2 : BRow w q2 d) (hq : q = none → n = 0 ∧ c = 0) (hq2 : q2 = none → n2 = 0 ∧ c2 = 0) (hnc : n ≤ c) (hcm : c ≤ maxLen) (hn2 : n2 ≤ 140737488351232) :
    Calls Tryd.prog 4 #[.slice q n c, .slice q2 n2 c2] w fun e w' => e = .returned (.bool true) ∧ Below w.heap.size w w' := by
  cases hf : findP lowT b with
  | none => exact none_err q q2 n c n2 c2 b en w HE hr hq hf
  | some l => exact none_some q q2 n c n2 c2 b d en en2 w HE hr hr2 hq hq2 hnc hcm hn2 l hf
end Go.Proofs.YtnfidloiediflacDoor

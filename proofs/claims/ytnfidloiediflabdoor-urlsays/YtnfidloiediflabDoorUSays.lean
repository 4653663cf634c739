/- The law URLSays: usays_any. Condition: the texts are shorter than maxLen; MaxLen holds a number. -/
import Derived.Test.YtnfidloiediflabDoorUSaysW
import Derived.Test.YtnfidloiediflabDoorRLed2
import Derived.Test.YtnfidloiediflabDoorRRead3
import Derived.Test.YtnfidloiediflabDoorURTx
namespace Go.Proofs.YtnfidloiediflabDoor
open Go.RowKit

/-- The law URLSays. -/
theorem usays_any (u v : UV) (s : ByteArray) (hu : u.short maxLen) (hv : v.short maxLen) (hs : s.size ≤ maxLen) (w : World) (hM : MaxAt w) :
    Calls Tryd.prog 3 #[u.v, v.v, .string s] w fun e w' => e = .returned (.bool true) ∧ Below w.heap.size w w' := by
  have CR := fun W (_ : Below w.heap.size w W) => uprint_any u hu W
  have CP := fun W (_ : Below w.heap.size w W) => uparse_any s hs W
  have CL := fun W (h : Below w.heap.size w W) => ulead_any u v hu hv W (hM.below h)
  have CQ := fun W (h : Below w.heap.size w W) => rread_any s hs W (hM.below h)
  have CM := fun W (h : Below w.heap.size w W) => rled_any u v hu hv W (hM.below h)
  have CK := fun W (h : Below w.heap.size w W) => rchk_any u hu W (hM.below h)
  have CA := fun W (h : Below w.heap.size w W) => addr_any W (hM.below h)
  have CC := fun W (_ : Below w.heap.size w W) => ucheck_any u hu W
  rcases hp : parseU s.data.toList with ⟨PU, n1⟩
  rcases hx : leadU u.l v.l with ⟨XU, n2⟩
  rw [hp] at CP CQ
  rw [hx] at CL CM
  clear hp hx
  by_cases h0 : checkU u.l = 0
  · have CT := fun W (_ : Below w.heap.size w W) => rtext_any u (checkU_short h0) (bar (textU u.l)) rfl W
    have hpr : printU u.l = (textU u.l, 0) := by unfold printU; rw [if_pos h0]
    rw [hpr] at CR
    rw [h0] at CK CC
    obtain ⟨us, uhh, uh, up, uhq, uq, uhf, uf⟩ := u
    obtain ⟨vs, vhh, vh, vp, vhq, vq, vhf, vf⟩ := v
    exact says_ok us uh up uq uf vs vh vp vq vf (bar PU.sch) (bar PU.hst) (bar PU.pth) (bar PU.qry) (bar PU.frg) (bar XU.sch) (bar XU.hst) (bar XU.pth) (bar XU.qry) (bar XU.frg) s _ uhh uhq uhf vhh vhq vhf PU.hh PU.hq PU.hf XU.hh XU.hq XU.hf n1 n2 w CR CP CL CQ CM CK CA CC CT
  · have hpr : printU u.l = ([], checkU u.l) := by unfold printU; rw [if_neg h0]
    rw [hpr] at CR
    obtain ⟨us, uhh, uh, up, uhq, uq, uhf, uf⟩ := u
    obtain ⟨vs, vhh, vh, vp, vhq, vq, vhf, vf⟩ := v
    exact says_no us uh up uq uf vs vh vp vq vf (bar PU.sch) (bar PU.hst) (bar PU.pth) (bar PU.qry) (bar PU.frg) (bar XU.sch) (bar XU.hst) (bar XU.pth) (bar XU.qry) (bar XU.frg) s uhh uhq uhf vhh vhq vhf PU.hh PU.hq PU.hf XU.hh XU.hq XU.hf _ n1 n2 h0 w CR CP CL CQ CM CK CA CC
end Go.Proofs.YtnfidloiediflabDoor

/- What an address that came in reads as. -/
import Derived.Test.YtnfidloiediflabDoorUText
import Derived.HandedShaped
import Derived.Shelf.Vars
import Derived.Lay
import Derived.SevenTiedAt
import Derived.Stop.Joined
import Derived.WalkKit
import Derived.ProofKit
import Derived.OpenShut
import Derived.ShutString
import Derived.ChangeOld
import Derived.Below
import Derived.ChangeArms
namespace Go.Proofs.YtnfidloiediflabDoor
open Go.ChangeShapes Go.WideShapes Go.ChangeAt Go.RowKit

theorem url_under : ∃ f0 f1 f2 f3 f4 f5 f6 f7 : Field, Tryd.prog.underlying 23 = some (.struct #[f0, f1, f2, f3, f4, f5, f6, f7]) ∧ f0.offset = 0 ∧ f1.offset = 1 ∧ f2.offset = 2 ∧ f3.offset = 3 ∧ f4.offset = 4 ∧ f5.offset = 5 ∧ f6.offset = 6 ∧ f7.offset = 7 ∧ f0.type = 9 ∧ f1.type = 4 ∧ f2.type = 9 ∧ f3.type = 9 ∧ f4.type = 4 ∧ f5.type = 9 ∧ f6.type = 4 ∧ f7.type = 9 :=
  ⟨_, _, _, _, _, _, _, _, Tryd.underlying23, rfl, rfl, rfl, rfl, rfl, rfl, rfl, rfl, rfl, rfl, rfl, rfl, rfl, rfl, rfl, rfl⟩

set_option maxHeartbeats 1000000 in
set_option maxRecDepth 100000 in
/-- An address that came in by value. -/
theorem url_open {H : Type} {enc : TypeId × Value → H} {W : World} {base b0 : Nat} {spare : Nat → Bool} {held : Bool} {fuel : Nat} {v : Value} {x : DataW H × List MemPlace}
    (hv : Value.okWide Tryd.prog W .any base 23 v) (h : DataW.trod enc Tryd.prog W b0 spare held fuel 23 v.cells.toList = some x) :
    ∃ u : UV, v = u.v ∧ u.short maxLen := by
  obtain ⟨cs, rfl, hsz⟩ := okWide_struct Tryd.underlying23 hv
  obtain ⟨f0, f1, f2, f3, f4, f5, f6, f7, hu, o0, o1, o2, o3, o4, o5, o6, o7, t0, t1, t2, t3, t4, t5, t6, t7⟩ := url_under
  have hcf : Tryd.prog.cellsOf 23 = 8 := by kernel_rfl
  have hsz2 : cs.size = 8 := by rw [hsz, hcf]
  have c0 : Tryd.prog.cellsOf f0.type = 1 := by rw [t0]; kernel_rfl
  have c1 : Tryd.prog.cellsOf f1.type = 1 := by rw [t1]; kernel_rfl
  have c2 : Tryd.prog.cellsOf f2.type = 1 := by rw [t2]; kernel_rfl
  have c3 : Tryd.prog.cellsOf f3.type = 1 := by rw [t3]; kernel_rfl
  have c4 : Tryd.prog.cellsOf f4.type = 1 := by rw [t4]; kernel_rfl
  have c5 : Tryd.prog.cellsOf f5.type = 1 := by rw [t5]; kernel_rfl
  have c6 : Tryd.prog.cellsOf f6.type = 1 := by rw [t6]; kernel_rfl
  have c7 : Tryd.prog.cellsOf f7.type = 1 := by rw [t7]; kernel_rfl
  obtain ⟨l, rfl⟩ : ∃ l, cs = List.toArray l := ⟨cs.toList, by simp⟩
  obtain ⟨xs, k, _, _, _, hxl, hf⟩ := DataW.trod_struct hu h
  match xs, hxl, l, hsz2 with
  | [y0, y1, y2, y3, y4, y5, y6, y7], _, [v0, v1, v2, v3, v4, v5, v6, v7], _ =>
    have g0 := hf 0 f0 rfl
    have g1 := hf 1 f1 rfl
    have g2 := hf 2 f2 rfl
    have g3 := hf 3 f3 rfl
    have g4 := hf 4 f4 rfl
    have g5 := hf 5 f5 rfl
    have g6 := hf 6 f6 rfl
    have g7 := hf 7 f7 rfl
    simp [o0, o1, o2, o3, o4, o5, o6, o7, c0, c1, c2, c3, c4, c5, c6, c7, Value.cells] at g0 g1 g2 g3 g4 g5 g6 g7
    rw [t0] at g0
    obtain ⟨s0, e0, _, z0⟩ := DataW.trod_string Tryd.underlying9 g0
    rw [t1] at g1
    obtain ⟨s1, e1, _⟩ := DataW.trod_bool Tryd.underlying4 g1
    rw [t2] at g2
    obtain ⟨s2, e2, _, z2⟩ := DataW.trod_string Tryd.underlying9 g2
    rw [t3] at g3
    obtain ⟨s3, e3, _, z3⟩ := DataW.trod_string Tryd.underlying9 g3
    rw [t4] at g4
    obtain ⟨s4, e4, _⟩ := DataW.trod_bool Tryd.underlying4 g4
    rw [t5] at g5
    obtain ⟨s5, e5, _, z5⟩ := DataW.trod_string Tryd.underlying9 g5
    rw [t6] at g6
    obtain ⟨s6, e6, _⟩ := DataW.trod_bool Tryd.underlying4 g6
    rw [t7] at g7
    obtain ⟨s7, e7, _, z7⟩ := DataW.trod_string Tryd.underlying9 g7
    simp at e0 e1 e2 e3 e4 e5 e6 e7
    subst e0 e1 e2 e3 e4 e5 e6 e7
    exact ⟨⟨s0, s1, s2, s3, s4, s5, s6, s7⟩, rfl, z0, z2, z3, z5, z7⟩
end Go.Proofs.YtnfidloiediflabDoor

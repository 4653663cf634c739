/- What the arguments of the header's laws read as: fields that lie in memory. -/
import Derived.Test.YtnlnjjcfpbmpmaaDoorChecks
import Derived.Deep.SlicePairs
namespace Go.Proofs.YtnlnjjcfpbmpmaaDoor
open Go.ChangeShapes Go.WideShapes Go.ChangeAt Go.RowKit

theorem fld_under : ∃ f0 f1 : Field, Tryd.prog.underlying 51 = some (.struct #[f0, f1]) ∧ f0.offset = 0 ∧ f1.offset = 1 ∧ f0.type = 9 ∧ f1.type = 9 :=
  ⟨_, _, Tryd.underlying51, rfl, rfl, rfl, rfl⟩

/-- A list of fields that came in. -/
theorem fields_open {H : Type} {enc : TypeId × Value → H} {W : World} {base : Nat} {spare : Nat → Bool} {held : Bool} {fuel : Nat} {a0 : Option Addr} {len cap : Nat} {x : DataW H × List MemPlace}
    (h : DataW.trod enc Tryd.prog W base spare held fuel 40 [.slice a0 len cap] = some x) :
    ∃ l : List FV, l.length = len ∧ len ≤ cap ∧ cap ≤ maxLen ∧ (a0 = none → len = 0 ∧ cap = 0) ∧ FRow W a0 l ∧ FLen l := by
  obtain ⟨f0, f1, hu, o0, o1, t0, t1⟩ := fld_under
  rcases Go.Deep.open_slice_pairs Tryd.underlying40 hu (by kernel_rfl) o0 o1 (by rw [t0]; kernel_rfl) (by rw [t1]; kernel_rfl) h with ⟨hcs, _⟩ | ⟨a, l, c, m, n, V0, V1, D0, D1, P0, P1, hcs, _, hl, hm, hmm, _, hx⟩
  · simp at hcs
    obtain ⟨rfl, rfl, rfl⟩ := hcs
    exact ⟨[], rfl, Nat.le_refl _, by decide, fun _ => ⟨rfl, rfl⟩, fun h => absurd rfl h, fun f hf => by cases hf⟩
  · simp at hcs
    obtain ⟨rfl, rfl, rfl⟩ := hcs
    have hlm : len ≤ m := by rw [hmm]; split <;> omega
    have each : ∀ i, i < len → ∃ f : FV, W.cell? (a.add (i * 2)) = some (.string f.1) ∧ W.cell? (a.add (i * 2 + 1)) = some (.string f.2) ∧ f.1.size ≤ maxLen ∧ f.2.size ≤ maxLen := fun i hi => by
      obtain ⟨h1, h2, h3, h4⟩ := hx i (by omega)
      rw [t0] at h3
      rw [t1] at h4
      obtain ⟨s, e1, _, s1⟩ := DataW.trod_string Tryd.underlying9 h3
      obtain ⟨t, e2, _, s2⟩ := DataW.trod_string Tryd.underlying9 h4
      simp at e1 e2
      exact ⟨(s, t), by rw [h1, e1], by rw [h2, e2], s1, s2⟩
    obtain ⟨F, hF⟩ := Go.Deep.choose_lt each
    refine ⟨(List.range len).map F, by simp, hl, hm, (fun h => by cases h), fun hne => ?_, fun f hf => ?_⟩
    · have hpos : 0 < len := by
        rcases Nat.eq_zero_or_pos len with e | e
        · subst e; exact absurd rfl hne
        · exact e
      obtain ⟨b, o, spot⟩ := a
      have hspot : spot = none := by simpa [Addr.add] using World.cell?_spot (hF 0 hpos).1
      subst hspot
      refine ⟨b, o, rfl, fun i hi => ?_⟩
      have hi' : i < len := by simpa using hi
      have e1 : ((List.range len).map F).getD i default = F i := by simp [List.getD_eq_getElem?_getD, hi']
      have h1 := (hF i hi').1
      have h2 := (hF i hi').2.1
      rw [Addr.add_lit] at h1 h2
      rw [e1]
      exact ⟨h1, by rw [Nat.add_assoc]; exact h2⟩
    · obtain ⟨i, hi, rfl⟩ := List.mem_map.1 hf
      exact (hF i (by simpa using hi)).2.2
end Go.Proofs.YtnlnjjcfpbmpmaaDoor

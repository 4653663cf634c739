/- What the arguments of the header's laws read as: fields that lie in memory. -/
import Derived.Test.YtnmmlbgadibimaaDoorChecks
import Derived.Deep.SlicePairs
namespace Go.Proofs.YtnmmlbgadibimaaDoor
open Go.ChangeShapes Go.WideShapes Go.ChangeAt Go.RowKit

theorem fld_under : ∃ f0 f1 : Field, Tryd.prog.underlying 51 = some (.struct #[f0, f1]) ∧ f0.offset = 0 ∧ f1.offset = 1 ∧ f0.type = 9 ∧ f1.type = 9 :=
  ⟨_, _, Tryd.underlying51, rfl, rfl, rfl, rfl⟩

/-- A list of fields that came in. -/
theorem fields_open {H : Type} {enc : TypeId × Value → H} {W : World} {base : Nat} {spare : Nat → Bool} {held : Bool} {fuel : Nat} {a0 : Option Addr} {len cap : Nat} {x : DataW H × List MemPlace}
    (h : DataW.trod enc Tryd.prog W base spare held fuel 40 [.slice a0 len cap] = some x) :
    ∃ l : List FV, l.length = len ∧ len ≤ cap ∧ cap ≤ maxLen ∧ (a0 = none → len = 0 ∧ cap = 0) ∧ FRow W a0 l ∧ FLen l := by
  obtain ⟨f0, f1, hu, o0, o1, t0, t1⟩ := fld_under
  rcases Go.Deep.open_slice_pairs Tryd.underlying40 hu (by kernel_rfl) o0 o1 (by rw [t0]; kernel_rfl) (by rw [t1]; kernel_rfl) h with ⟨hcs, _⟩ | ⟨a, l, c, m, n, V0, V1, D0, D1, P0, P1, hcs, _, hl, hm, hmm, _, hx⟩
  · simp at hcs
    obtain ⟨rfl, rfl, rfl⟩ := hcs
    exact ⟨[], rfl, Nat.le_refl _, by decide, fun _ => ⟨rfl, rfl⟩, fun h => absurd rfl h, fun f hf => by cases hf⟩
  · simp at hcs
    obtain ⟨rfl, rfl, rfl⟩ := hcs
    have hlm : len ≤ m := by rw [hmm]; split <;> omega
    have each : ∀ i, i < len → ∃ f : FV, W.cell? (a.add (i * 2)) = some (.string f.1) ∧ W.cell? (a.add (i * 2 + 1)) = some (.string f.2) ∧ f.1.size ≤ maxLen ∧ f.2.size ≤ maxLen := fun i hi => by
      obtain ⟨h1, h2, h3, h4⟩ := hx i (by omega)
      rw [t0] at h3
      rw [t1] at h4
      obtain ⟨s, e1, _, s1⟩ := DataW.trod_string Tryd.underlying9 h3
      obtain ⟨t, e2, _, s2⟩ := DataW.trod_string Tryd.underlying9 h4
      simp at e1 e2
      exact ⟨(s, t), by rw [h1, e1], by rw [h2, e2], s1, s2⟩
    obtain ⟨F, hF⟩ := Go.Deep.choose_lt each
    refine ⟨(List.range len).map F, by simp, hl, hm, (fun h => by cases h), fun hne => ?_, fun f hf => ?_⟩
    · have hpos : 0 < len := by
        rcases Nat.eq_zero_or_pos len with e | e
        · subst e; exact absurd rfl hne
        · exact e
      obtain ⟨b, o, spot⟩ := a
      have hspot : spot = none := by simpa [Addr.add] using World.cell?_spot (hF 0 hpos).1
      subst hspot
      refine ⟨b, o, rfl, fun i hi => ?_⟩
      have hi' : i < len := by simpa using hi
      have e1 : ((List.range len).map F).getD i default = F i := by simp [List.getD_eq_getElem?_getD, hi']
      have h1 := (hF i hi').1
      have h2 := (hF i hi').2.1
      rw [Addr.add_lit] at h1 h2
      rw [e1]
      exact ⟨h1, by rw [Nat.add_assoc]; exact h2⟩
    · obtain ⟨i, hi, rfl⟩ := List.mem_map.1 hf
      exact (hF i (by simpa using hi)).2.2

set_option maxRecDepth 100000 in
/-- A field that came in by value. -/
theorem field_open {H : Type} {enc : TypeId × Value → H} {W : World} {base b0 : Nat} {spare : Nat → Bool} {held : Bool} {fuel : Nat} {v : Value} {x : DataW H × List MemPlace}
    (hv : Value.okWide Tryd.prog W .any base 51 v) (h : DataW.trod enc Tryd.prog W b0 spare held fuel 51 v.cells.toList = some x) :
    ∃ s t : ByteArray, v = .agg #[.string s, .string t] ∧ s.size ≤ maxLen ∧ t.size ≤ maxLen := by
  obtain ⟨cs, rfl, hsz⟩ := okWide_struct Tryd.underlying51 hv
  obtain ⟨f0, f1, hu, o0, o1, t0, t1⟩ := fld_under
  have hcf : Tryd.prog.cellsOf 51 = 2 := by kernel_rfl
  have hsz2 : cs.size = 2 := by rw [hsz, hcf]
  have c0 : Tryd.prog.cellsOf f0.type = 1 := by rw [t0]; kernel_rfl
  have c1 : Tryd.prog.cellsOf f1.type = 1 := by rw [t1]; kernel_rfl
  obtain ⟨l, rfl⟩ : ∃ l, cs = List.toArray l := ⟨cs.toList, by simp⟩
  obtain ⟨xs, k, _, _, _, hxl, hf⟩ := DataW.trod_struct hu h
  match xs, hxl, l, hsz2 with
  | [y0, y1], _, [v0, v1], _ =>
    have g0 := hf 0 f0 rfl
    have g1 := hf 1 f1 rfl
    simp [o0, o1, c0, c1, Value.cells] at g0 g1
    rw [t0] at g0
    rw [t1] at g1
    obtain ⟨s, e1, _, s1⟩ := DataW.trod_string Tryd.underlying9 g0
    obtain ⟨t, e2, _, s2⟩ := DataW.trod_string Tryd.underlying9 g1
    simp at e1 e2
    subst e1 e2
    exact ⟨s, t, rfl, s1, s2⟩

/-- What a list of fields that came in may weigh. -/
theorem fields_weigh {H : Type} {enc : TypeId × Value → H} {W : World} {base : Nat} {spare : Nat → Bool} {held : Bool} {fuel : Nat} {a0 : Option Addr} {len cap : Nat} {d : DataW H} {p : List MemPlace} {ts : List TypeId} {ds : List (DataW H)}
    (h : DataW.trod enc Tryd.prog W base spare held fuel 40 [.slice a0 len cap] = some (d, p)) (hw : (DataW.weightsEach Tryd.prog (40 :: ts) (d :: ds)).all (· ≤ reachBytes) = true) : len * 32 ≤ 140737488351232 := by
  rcases Go.Deep.open_slice Tryd.underlying40 h with ⟨hcs, _⟩ | ⟨a, l, c, m, n, D, Pl, hcs, _, hl, hm, hmm, hx, _⟩
  · simp at hcs
    obtain ⟨_, rfl, _⟩ := hcs
    omega
  · simp at hcs
    obtain ⟨rfl, rfl, rfl⟩ := hcs
    have hd := (Prod.mk.inj hx).1
    subst hd
    rw [List.all_eq_true] at hw
    have hb : Tryd.prog.bytesOf 51 = 32 := by kernel_rfl
    have key : (len + (m - len)) * 32 ≤ reachBytes := by
      have := hw ((len + (m - len)) * 32) (by
        rw [DataW.weightsEach, DataW.weights, Tryd.underlying40]
        simp [hb])
      simpa using this
    unfold reachBytes at key
    omega
end Go.Proofs.YtnmmlbgadibimaaDoor

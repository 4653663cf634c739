/- 'append' of one number to numbers that the call owns: where the row lies then. No function of the program. -/
import Derived.Test.YtehiaenicfmpbaaDoorPAll
namespace Go.Proofs.YtehiaenicfmpbaaDoor
open Go.RowKit

theorem append_one (w : World) (base g n cap : Nat) (xs : List Value) (hown : w.ownsRow base 3 1 (.slice (some ⟨g, 0, none⟩) n cap) n xs) (ad : Addr) (z : Int)
    (hc : ∀ j u, [Value.int .i64 z][j]? = some u → w.cell? (ad.add j) = some u) (hn : n ≤ 100000) (hbase : base ≤ w.heap.size) :
    ∃ g' c' w', (∀ ty, (Builtin.append_ #[68, 68] ty #[.slice (some ⟨g, 0, none⟩) n cap, .slice (some ad) 1 1]).run Tryd.prog w = .ok (.slice (some ⟨g', 0, none⟩) (n + 1) c') w') ∧ w'.ownsRow base 3 1 (.slice (some ⟨g', 0, none⟩) (n + 1) c') (n + 1) (xs ++ [.int .i64 z]) ∧ w.grownBy w' (some g) ∧ (g' = g ∨ w.heap.size ≤ g') := by
  obtain ⟨i0, hi, hz0, hz1, hz2⟩ := info_parts info_int
  have h1c : ∀ u ∈ [Value.int .i64 z], u.oneCell' = true := one_int z
  have own := fun ty => run_append_own (P := Tryd.prog) w base 68 ty 3 i0 (.int .i64 0) 1 8 Tryd.underlying68 hi hz0 hz1 hz2 rfl (by decide) (.slice (some ⟨g, 0, none⟩) n cap) n xs hown ad 1 1 [.int .i64 z] rfl hc h1c (by unfold maxLen; omega) (by omega) hbase
  have ho := hown
  rcases hown.2 with ⟨h, _⟩ | ⟨g2, cap2, cur, e2, hbg, hg, hnc, hcm, hcs, htake⟩
  · simp at h
  · simp only [Value.slice.injEq, Option.some.injEq, Addr.mk.injEq, and_true, true_and] at e2
    obtain ⟨rfl, rfl⟩ := e2
    by_cases hroom : n + 1 ≤ cap
    · have hr2 := fun ty => run_append_room (P := Tryd.prog) w 68 ty 3 i0 Tryd.underlying68 hi g n cap cur hg ad 1 1 [.int .i64 z] (by rw [hz1]; rfl) hc h1c hroom (by rw [hz1, hcs]; simp; omega)
      obtain ⟨v', w', hr, h2, h3, _⟩ := own 0
      have h4 := hr.symm.trans (hr2 0)
      injection h4 with hv hw
      subst hv hw
      exact ⟨g, cap, _, hr2, h2, h3, .inl rfl⟩
    · have holds : ∀ j u, xs[j]? = some u → w.cell? ((⟨g, 0, none⟩ : Addr).add j) = some u := ho.cells (g := g) rfl
      have hr2 := fun ty => run_append_grow (P := Tryd.prog) w 68 ty 3 i0 (.int .i64 0) Tryd.underlying68 hi hz0 ⟨g, 0, none⟩ n cap xs (by rw [hz1]; exact hown.1) holds ad 1 1 [.int .i64 z] (by rw [hz1]; rfl) hc (by omega) (by omega) (by rw [hz2]; exact growslice_fits (by omega) (by omega))
      obtain ⟨v', w', hr, h2, h3, _⟩ := own 0
      have h4 := hr.symm.trans (hr2 0)
      injection h4 with hv hw
      subst hv hw
      exact ⟨_, _, _, hr2, h2, h3, .inr (Nat.le_refl _)⟩
end Go.Proofs.YtehiaenicfmpbaaDoor

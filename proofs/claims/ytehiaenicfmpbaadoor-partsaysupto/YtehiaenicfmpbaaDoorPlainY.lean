/- Plain facts on parts: what the reference's sized says of few, and not too deep, parts; what Flat gives are the parts of the tree. No program. -/
import Derived.Test.YtehiaenicfmpbaaDoorRSized
import Derived.Test.YtehiaenicfmpbaaDoorRFlat
namespace Go.Proofs.YtehiaenicfmpbaaDoor

def total (f : Nat) (ks : List PT) : Nat := (ks.map fun k => (tree f k).length).sum
theorem grow_total (f : Nat) : ∀ (ks : List PT) (acc : List (PT × Option Nat)), (grow f acc ks).length = acc.length + total f ks
  | [], acc => by simp [grow_nil, total]
  | k :: ks, acc => by
    rw [grow_cons, grow_total f ks]
    simp [total]
    omega
theorem tree_total (f : Nat) (p : PT) : (tree (f + 1) p).length = 1 + total f p.kids := by rw [tree_grow, grow_total]; rfl

theorem sized_fits (f : Nat) (hf : f ≤ 3) : ∀ (ks : List PT) (a d : Nat), (∀ k ∈ ks, (sizedP f k).1 = (tree f k).length ∧ (sizedP f k).2 ≤ f) → d ≤ f → (a + total f ks ≤ 100 → ∃ D, D ≤ f ∧ sizedG f (a, d) ks = some (a + total f ks, D)) ∧ (a ≤ 100 → 100 < a + total f ks → sizedG f (a, d) ks = none)
  | [], a, d, _, hd => ⟨fun _ => ⟨d, hd, rfl⟩, fun h1 h2 => by simp [total] at h2; omega⟩
  | k :: ks, a, d, h, hd => by
    obtain ⟨h1, h2⟩ := h k (by simp)
    have ht : total f (k :: ks) = (tree f k).length + total f ks := by simp [total]
    by_cases hc : 100 < a + (sizedP f k).1 ∨ 50 < max d (sizedP f k).2
    · have hs := sizedG_stop f (a, d) k ks hc
      exact ⟨fun h3 => by rw [ht] at h3; omega, fun _ _ => hs⟩
    · have hs := sizedG_on f (a, d) k ks hc
      obtain ⟨g1, g2⟩ := sized_fits f hf ks (a + (sizedP f k).1) (max d (sizedP f k).2) (fun x hx => h x (by simp [hx])) (by omega)
      rw [hs, ht, h1]
      rw [h1] at g1 g2
      refine ⟨fun h3 => ?_, fun h3 h4 => g2 (by omega) (by omega)⟩
      obtain ⟨D, hD, e⟩ := g1 (by omega)
      exact ⟨D, hD, by rw [e, Nat.add_assoc]⟩
theorem sized_grows (f : Nat) : ∀ (ks : List PT) (a b : Nat × Nat), sizedG f a ks = some b → a.1 ≤ b.1 ∧ a.2 ≤ b.2 ∧ ∀ k ∈ ks, (sizedP f k).1 ≤ b.1 ∧ (sizedP f k).2 ≤ b.2
  | [], a, b, h => by rw [sizedG_nil] at h; cases h; exact ⟨Nat.le_refl _, Nat.le_refl _, fun k hk => by cases hk⟩
  | k :: ks, a, b, h => by
    by_cases hc : 100 < a.1 + (sizedP f k).1 ∨ 50 < max a.2 (sizedP f k).2
    · rw [sizedG_stop f a k ks hc] at h; cases h
    · rw [sizedG_on f a k ks hc] at h
      obtain ⟨h1, h2, h3⟩ := sized_grows f ks _ b h
      simp only at h1 h2
      refine ⟨by omega, by omega, fun x hx => ?_⟩
      rcases List.mem_cons.1 hx with e | e
      · subst e; exact ⟨by omega, by omega⟩
      · exact h3 x e

theorem total_mem (f : Nat) : ∀ (ks : List PT) (k : PT), k ∈ ks → (tree f k).length ≤ total f ks
  | [], k, h => by cases h
  | x :: ks, k, h => by
    have ht : total f (x :: ks) = (tree f x).length + total f ks := by simp [total]
    rw [ht]
    rcases List.mem_cons.1 h with e | e
    · subst e; omega
    · have := total_mem f ks k e; omega
/-- What sized says: they are few and not too deep just where it says so. -/
theorem sized_says : ∀ (f : Nat), f ≤ 3 → ∀ p : PT, ((lev f p = true ∧ (tree f p).length ≤ 12) → (sizedP f p).1 = (tree f p).length ∧ (sizedP f p).2 ≤ f) ∧ (¬ (lev f p = true ∧ (tree f p).length ≤ 12) → 12 < (sizedP f p).1 ∨ 3 < (sizedP f p).2)
  | 0, _, p => ⟨(fun h => absurd h.1 (by rw [lev]; decide)), fun _ => .inr (by show 3 < 99; decide)⟩
  | f + 1, hf, p => by
    have ih := sized_says f (by omega)
    rw [sizedP_succ, tree_total, lev_succ]
    by_cases hall : ∀ k ∈ p.kids, lev f k = true ∧ (tree f k).length ≤ 12
    · obtain ⟨g1, g2⟩ := sized_fits f (by omega) p.kids 1 0 (fun k hk => (ih k).1 (hall k hk)) (Nat.zero_le _)
      have hl : p.kids.all (lev f) = true := List.all_eq_true.2 fun k hk => (hall k hk).1
      refine ⟨fun h => ?_, fun h => ?_⟩
      · obtain ⟨D, hD, e⟩ := g1 (by omega)
        rw [e]
        exact ⟨rfl, by show D + 1 ≤ f + 1; omega⟩
      · have h12 : 12 < 1 + total f p.kids := by
          rcases Nat.lt_or_ge 12 (1 + total f p.kids) with h' | h'
          · exact h'
          · exact absurd ⟨hl, h'⟩ h
        rcases Nat.lt_or_ge 100 (1 + total f p.kids) with h' | h'
        · rw [g2 (by omega) h']; exact .inl (by show 12 < 100; decide)
        · obtain ⟨D, _, e⟩ := g1 h'
          rw [e]
          exact .inl h12
    · obtain ⟨k, hk, hb⟩ : ∃ k ∈ p.kids, ¬ (lev f k = true ∧ (tree f k).length ≤ 12) := by
        rcases Classical.em (∃ k ∈ p.kids, ¬ (lev f k = true ∧ (tree f k).length ≤ 12)) with h | h
        · exact h
        · exact absurd (fun k hk => Classical.not_not.1 fun hb => h ⟨k, hk, hb⟩) hall
      have hbad : ¬ (p.kids.all (lev f) = true ∧ 1 + total f p.kids ≤ 12) := fun h => hb ⟨List.all_eq_true.1 h.1 k hk, by
        have := total_mem f p.kids k hk
        omega⟩
      refine ⟨fun h => absurd h hbad, fun _ => ?_⟩
      cases hs : sizedG f (1, 0) p.kids with
      | none => exact .inl (by show 12 < 100; decide)
      | some b =>
        have := (sized_grows f p.kids (1, 0) b hs).2.2 k hk
        rcases (ih k).2 hb with h | h
        · exact .inl (by show 12 < b.1; omega)
        · exact .inr (by show 3 < b.2 + 1; omega)

theorem grow_fst (f : Nat) : ∀ (ks : List PT) (acc : List (PT × Option Nat)), (∀ k ∈ ks, (tree f k).map (·.1) = flatP f k) → (grow f acc ks).map (·.1) = acc.map (·.1) ++ ks.flatMap (flatP f)
  | [], acc, _ => by simp [grow_nil]
  | k :: ks, acc, h => by
    rw [grow_cons, grow_fst f ks _ (fun x hx => h x (by simp [hx])), List.map_append, List.map_map, List.flatMap_cons, ← h k (by simp), List.append_assoc]
    rfl
theorem tree_flat : ∀ (f : Nat) (p : PT), (tree f p).map (·.1) = flatP f p
  | 0, _ => rfl
  | f + 1, p => by rw [tree_grow, grow_fst f p.kids _ (fun k _ => tree_flat f k), flatP_succ]; rfl
end Go.Proofs.YtehiaenicfmpbaaDoor

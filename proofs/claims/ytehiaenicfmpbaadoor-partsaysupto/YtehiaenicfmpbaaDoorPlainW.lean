/- Plain facts on parts: of a part with nothing wrong each place but the first is in one ahead of it, which is Many; those are Many in which one is. No program. -/
import Derived.Test.YtehiaenicfmpbaaDoorPlainV
namespace Go.Proofs.YtehiaenicfmpbaaDoor

theorem places_ok (p : PT) (h : (placesP p).1 = 0) : lev 3 p = true ∧ (tree 3 p).length ≤ 12 ∧ (placesP p).2 = (tree 3 p).map (abs 0 (-1)) ∧ firstBad (placesP p).2 = 0 := by
  have hs := places_spec p
  unfold placesP at h ⊢
  by_cases hc : lev 3 p = true ∧ (tree 4 p).length ≤ 12
  · rw [if_pos hc] at hs
    rw [hs] at h ⊢
    simp only at h ⊢
    by_cases hb : firstBad ((tree 4 p).map (abs 0 (-1))) = 0
    · rw [if_pos hb]
      rw [tree_fuel 3 p hc.1 4 (by omega)] at hc hb ⊢
      exact ⟨hc.1, hc.2, rfl, hb⟩
    · rw [if_neg hb] at h; exact absurd h hb
  · rw [if_neg hc] at hs
    rw [hs] at h
    cases h

theorem chkA_many (p : PT) (h : chkA p = 0) : manyS p.ty.data.toList = !p.kids.isEmpty := by
  unfold chkA at h
  split at h
  · cases h
  · split at h
    · cases h
    · split at h
      · cases h
      · split at h
        · cases h
        · rename_i hf
          have hf' : formedP p = true := by simpa using hf
          unfold formedP at hf'
          cases hm : manyS p.ty.data.toList with
          | true => rw [hm] at hf'; simp at hf'; simp [hf'.1]
          | false => rw [hm] at hf'; simp at hf'; simp [hf']
theorem bad_each : ∀ (L : List (PT × Int)), firstBad L = 0 → ∀ x ∈ L, chkA x.1 = 0
  | [], _, x, hx => by cases hx
  | y :: L, h, x, hx => by
    rw [firstBad] at h
    split at h
    · rename_i h0
      rcases List.mem_cons.1 hx with e | e
      · subst e; exact h0
      · exact bad_each L h x e
    · rename_i h0; exact absurd h h0

theorem tree_facts (p : PT) (h : (placesP p).1 = 0) :
    (placesP p).2.length ≤ 12 ∧ ((placesP p).2[0]? = some (p, -1)) ∧
    (∀ (j : Nat) (x : PT × Int), 1 ≤ j → (placesP p).2[j]? = some x → ∃ (k : Nat) (y : PT × Int), x.2 = (k : Int) ∧ k < j ∧ (placesP p).2[k]? = some y ∧ manyS y.1.ty.data.toList = true) ∧
    (∀ (j : Nat) (x : PT × Int), (placesP p).2[j]? = some x → manyS x.1.ty.data.toList = ((placesP p).2.map (·.2)).contains (j : Int)) := by
  obtain ⟨hl, h12, hL, hb⟩ := places_ok p h
  have hg := good_tree 3 p hl
  rw [hL] at hb ⊢
  generalize tree 3 p = T at *
  obtain ⟨g0, g1, g2⟩ := hg
  have hat : ∀ (j : Nat) (x : PT × Int), (T.map (abs 0 (-1)))[j]? = some x → ∃ t, T[j]? = some t ∧ x = abs 0 (-1) t := fun j x hx => by
    rw [List.getElem?_map] at hx
    cases ht : T[j]? with
    | none => rw [ht] at hx; cases hx
    | some t => rw [ht] at hx; exact ⟨t, rfl, (Option.some.inj hx).symm⟩
  have hto : ∀ (j : Nat) (t : PT × Option Nat), T[j]? = some t → (T.map (abs 0 (-1)))[j]? = some (abs 0 (-1) t) := fun j t ht => by rw [List.getElem?_map, ht]; rfl
  have hmany : ∀ (j : Nat) (t : PT × Option Nat), T[j]? = some t → manyS t.1.ty.data.toList = !t.1.kids.isEmpty := fun j t ht => chkA_many t.1 (bad_each _ hb _ (List.mem_of_getElem? (hto j t ht)))
  refine ⟨by rw [List.length_map]; exact h12, hto 0 _ g0, fun j x hj hx => ?_, fun j x hx => ?_⟩
  · obtain ⟨t, ht, rfl⟩ := hat j x hx
    obtain ⟨k, y, e, hk, hy, hkk⟩ := g1 j t hj ht
    refine ⟨k, abs 0 (-1) y, by simp [abs, e], hk, hto k y hy, ?_⟩
    show manyS y.1.ty.data.toList = true
    rw [hmany k y hy]
    cases hq : y.1.kids with
    | nil => exact absurd hq hkk
    | cons a l => rfl
  · obtain ⟨t, ht, rfl⟩ := hat j x hx
    show manyS t.1.ty.data.toList = _
    rw [hmany j t ht, Bool.eq_iff_iff]
    constructor
    · intro hq
      have hne : t.1.kids ≠ [] := fun e => by rw [e] at hq; cases hq
      rcases g2 j t ht hne with hf | ⟨i, y, hy, e⟩
      · cases hf
      · rw [List.contains_iff_mem]
        exact List.mem_map.2 ⟨_, List.mem_of_getElem? (hto i y hy), by simp [abs, e]⟩
    · intro hq
      rw [List.contains_iff_mem] at hq
      obtain ⟨x, hx, hxj⟩ := List.mem_map.1 hq
      obtain ⟨i, hi⟩ := List.mem_iff_getElem?.1 hx
      obtain ⟨y, hy, rfl⟩ := hat i x hi
      have hye : y.2 = some j := by
        cases hyy : y.2 with
        | none => simp [abs, hyy] at hxj
        | some k => simp [abs, hyy] at hxj; rw [show k = j from by omega]
      have hi1 : 1 ≤ i := by
        rcases Nat.eq_zero_or_pos i with e | e
        · subst e; rw [g0] at hy; obtain rfl := Option.some.inj hy; cases hye
        · exact e
      obtain ⟨k, z, e, _, hz, hzk⟩ := g1 i y hi1 hy
      rw [hye] at e
      obtain rfl := Option.some.inj e
      rw [ht] at hz
      obtain rfl := Option.some.inj hz
      cases hq : t.1.kids with
      | nil => exact absurd hq hzk
      | cons a l => rfl
end Go.Proofs.YtehiaenicfmpbaaDoor

/- Plain facts on parts: each part is in one ahead of it, which has parts; each that has parts has one in it. No program. -/
import Derived.Test.YtehiaenicfmpbaaDoorPlainL
namespace Go.Proofs.YtehiaenicfmpbaaDoor

theorem grow_same (f g : Nat) : ∀ (ks : List PT) (acc : List (PT × Option Nat)), (∀ k ∈ ks, tree g k = tree f k) → grow g acc ks = grow f acc ks
  | [], _, _ => rfl
  | k :: ks, acc, h => by
    rw [grow_cons, grow_cons, h k (by simp)]
    exact grow_same f g ks _ fun x hx => h x (by simp [hx])
theorem tree_fuel : ∀ (f : Nat) (p : PT), lev f p = true → ∀ g, f ≤ g → tree g p = tree f p
  | 0, p, h, _, _ => by rw [lev] at h; cases h
  | f + 1, p, h, 0, hg => by omega
  | f + 1, p, h, g + 1, hg => by
    rw [lev_succ, List.all_eq_true] at h
    rw [tree_grow, tree_grow]
    exact grow_same f g p.kids _ fun k hk => tree_fuel f k (h k hk) g (by omega)

/-- Each but the first is in one ahead of it, which has parts; each that has parts has one in it, but for those that q says. -/
def GoodBut (q : Nat → Prop) (T : List (PT × Option Nat)) : Prop :=
  (∀ (j : Nat) (x : PT × Option Nat), 1 ≤ j → T[j]? = some x → ∃ (k : Nat) (y : PT × Option Nat), x.2 = some k ∧ k < j ∧ T[k]? = some y ∧ y.1.kids ≠ []) ∧
  (∀ (j : Nat) (x : PT × Option Nat), T[j]? = some x → x.1.kids ≠ [] → q j ∨ ∃ (i : Nat) (y : PT × Option Nat), T[i]? = some y ∧ y.2 = some j)
def Good (p : PT) (T : List (PT × Option Nat)) : Prop := T[0]? = some (p, none) ∧ GoodBut (fun _ => False) T

theorem good_add (p k : PT) (q : Nat → Prop) (acc t : List (PT × Option Nat)) (hp : p.kids ≠ []) (h0 : acc[0]? = some (p, none)) (ha : GoodBut q acc) (ht : Good k t) :
    (acc ++ t.map (sub acc.length))[0]? = some (p, none) ∧ GoodBut (fun j => q j ∧ j ≠ 0) (acc ++ t.map (sub acc.length)) := by
  have hpos : 0 < acc.length := by
    rcases Nat.eq_zero_or_pos acc.length with h | h
    · rw [List.eq_nil_of_length_eq_zero h] at h0; cases h0
    · exact h
  have hl : ∀ (i : Nat) x, acc[i]? = some x → (acc ++ t.map (sub acc.length))[i]? = some x := fun i x h => by
    have hi : i < acc.length := (List.getElem?_eq_some_iff.1 h).1
    rw [List.getElem?_append_left hi]; exact h
  have hr : ∀ (i : Nat) x, t[i]? = some x → (acc ++ t.map (sub acc.length))[acc.length + i]? = some (sub acc.length x) := fun i x h => by
    rw [List.getElem?_append_right (by omega), show acc.length + i - acc.length = i from by omega, List.getElem?_map, h]; rfl
  have hwhich : ∀ (j : Nat) x, (acc ++ t.map (sub acc.length))[j]? = some x → acc[j]? = some x ∨ ∃ i y, j = acc.length + i ∧ t[i]? = some y ∧ x = sub acc.length y := fun j x h => by
    by_cases hj : j < acc.length
    · rw [List.getElem?_append_left hj] at h; exact Or.inl h
    · rw [List.getElem?_append_right (by omega), List.getElem?_map] at h
      cases hy : t[j - acc.length]? with
      | none => rw [hy] at h; cases h
      | some y => rw [hy] at h; exact Or.inr ⟨j - acc.length, y, by omega, hy, (Option.some.inj h).symm⟩
  refine ⟨hl 0 _ h0, fun j x hj h => ?_, fun j x h hk => ?_⟩
  · rcases hwhich j x h with h | ⟨i, y, rfl, hy, rfl⟩
    · obtain ⟨k', y, e, hlt, hy, hk⟩ := ha.1 j x hj h
      exact ⟨k', y, e, hlt, hl _ _ hy, hk⟩
    · by_cases hi : i = 0
      · subst hi
        rw [ht.1] at hy
        obtain rfl := Option.some.inj hy
        exact ⟨0, (p, none), rfl, by omega, hl 0 _ h0, hp⟩
      · obtain ⟨k', z, e, hlt, hz, hkz⟩ := ht.2.1 i y (by omega) hy
        exact ⟨acc.length + k', sub acc.length z, by simp [sub, e]; omega, by omega, hr _ _ hz, hkz⟩
  · rcases hwhich j x h with h | ⟨i, y, rfl, hy, rfl⟩
    · by_cases hj : j = 0
      · subst hj
        exact Or.inr ⟨acc.length, _, hr 0 _ ht.1, rfl⟩
      · rcases ha.2 j x h hk with hq | ⟨i, y, hy, e⟩
        · exact Or.inl ⟨hq, hj⟩
        · exact Or.inr ⟨i, y, hl _ _ hy, e⟩
    · rcases ht.2.2 i y hy hk with hq | ⟨i', z, hz, e⟩
      · cases hq
      · exact Or.inr ⟨acc.length + i', _, hr _ _ hz, by simp [sub, e]; omega⟩

theorem good_grow (f : Nat) (p : PT) (hp : p.kids ≠ []) : ∀ (ks : List PT) (q : Nat → Prop) (acc : List (PT × Option Nat)), (∀ k ∈ ks, Good k (tree f k)) → acc[0]? = some (p, none) → GoodBut q acc →
    (grow f acc ks)[0]? = some (p, none) ∧ GoodBut (fun j => q j ∧ (ks ≠ [] → j ≠ 0)) (grow f acc ks)
  | [], q, acc, _, h0, ha => ⟨h0, ha.1, fun j x h hk => (ha.2 j x h hk).imp_left fun hq => ⟨hq, fun h => absurd rfl h⟩⟩
  | k :: ks, q, acc, hk, h0, ha => by
    rw [grow_cons]
    obtain ⟨h1, h2⟩ := good_add p k q acc (tree f k) hp h0 ha (hk k (by simp))
    obtain ⟨h3, h4⟩ := good_grow f p hp ks _ _ (fun x hx => hk x (by simp [hx])) h1 h2
    exact ⟨h3, h4.1, fun j x h hk => (h4.2 j x h hk).imp_left fun hq => ⟨hq.1.1, fun _ => hq.1.2⟩⟩

theorem good_tree : ∀ (f : Nat) (p : PT), lev f p = true → Good p (tree f p)
  | 0, p, h => by rw [lev] at h; cases h
  | f + 1, p, h => by
    rw [lev_succ, List.all_eq_true] at h
    rw [tree_grow]
    have hb : GoodBut (fun j => j = 0 ∧ p.kids ≠ []) [(p, none)] := by
      refine ⟨fun j x hj h => ?_, fun j x h hk => ?_⟩
      · rw [List.getElem?_eq_none (by simp; omega)] at h; cases h
      · cases j with
        | zero => cases h; exact Or.inl ⟨rfl, hk⟩
        | succ j => cases h
    by_cases hp : p.kids = []
    · rw [hp, grow_nil]
      exact ⟨rfl, hb.1, fun j x h hk => (hb.2 j x h hk).imp_left fun hq => hq.2 hp⟩
    · obtain ⟨h1, h2⟩ := good_grow f p hp p.kids _ [(p, none)] (fun k hk => good_tree f k (h k hk)) rfl hb
      exact ⟨h1, h2.1, fun j x hx hk => (h2.2 j x hx hk).imp_left fun hq => hq.2 hp hq.1.1⟩
end Go.Proofs.YtehiaenicfmpbaaDoor

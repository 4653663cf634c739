/- Plain facts on parts: each part is in one ahead of it, which has parts; each that has parts has one in it. No program. -/
import Derived.Test.YtgnlebbifcmpjaaGreatDoorXbundlegoals40
import Derived.Test.YtgnlebbifcmpjaaGreatDoorXbundlegoals15
import Derived.Test.YtgnlebbifcmpjaaGreatDoorXbundlegoals24
namespace Go.Proofs.YtgnlebbifcmpjaaGreatDoor

theorem grow_same (f g : Nat) : ∀ (ks : List PT) (acc : List (PT × Option Nat)), (∀ k ∈ ks, tree g k = tree f k) → grow g acc ks = grow f acc ks
  | [], _, _ => rfl
  | k :: ks, acc, h => by
    rw [grow_cons, grow_cons, h k (by simp)]
    exact grow_same f g ks _ fun x hx => h x (by simp [hx])
theorem tree_fuel : ∀ (f : Nat) (p : PT), lev f p = true → ∀ g, f ≤ g → tree g p = tree f p
  | 0, p, h, _, _ => by rw [lev] at h; cases h
  | f + 1, p, h, 0, hg => by omega
  | f + 1, p, h, g + 1, hg => by
    rw [lev_succ, List.all_eq_true] at h
    rw [tree_grow, tree_grow]
    exact grow_same f g p.kids _ fun k hk => tree_fuel f k (h k hk) g (by omega)

/-- Each but the first is in one ahead of it, which has parts; each that has parts has one in it, but for those that q says. -/
def GoodBut (q : Nat → Prop) (T : List (PT × Option Nat)) : Prop :=
  (∀ (j : Nat) (x : PT × Option Nat), 1 ≤ j → T[j]? = some x → ∃ (k : Nat) (y : PT × Option Nat), x.2 = some k ∧ k < j ∧ T[k]? = some y ∧ y.1.kids ≠ []) ∧
  (∀ (j : Nat) (x : PT × Option Nat), T[j]? = some x → x.1.kids ≠ [] → q j ∨ ∃ (i : Nat) (y : PT × Option Nat), T[i]? = some y ∧ y.2 = some j)
def Good (p : PT) (T : List (PT × Option Nat)) : Prop := T[0]? = some (p, none) ∧ GoodBut (fun _ => False) T

theorem good_add (p k : PT) (q : Nat → Prop) (acc t : List (PT × Option Nat)) (hp : p.kids ≠ []) (h0 : acc[0]? = some (p, none)) (ha : GoodBut q acc) (ht : Good k t) :
    (acc ++ t.map (sub acc.length))[0]? = some (p, none) ∧ GoodBut (fun j => q j ∧ j ≠ 0) (acc ++ t.map (sub acc.length)) := by
  have hpos : 0 < acc.length := by
    rcases Nat.eq_zero_or_pos acc.length with h | h
    · rw [List.eq_nil_of_length_eq_zero h] at h0; cases h0
    · exact h
  have hl : ∀ (i : Nat) x, acc[i]? = some x → (acc ++ t.map (sub acc.length))[i]? = some x := fun i x h => by
    have hi : i < acc.length := (List.getElem?_eq_some_iff.1 h).1
    rw [List.getElem?_append_left hi]; exact h
  have hr : ∀ (i : Nat) x, t[i]? = some x → (acc ++ t.map (sub acc.length))[acc.length + i]? = some (sub acc.length x) := fun i x h => by
    rw [List.getElem?_append_right (by omega), show acc.length + i - acc.length = i from by omega, List.getElem?_map, h]; rfl
  have hwhich : ∀ (j : Nat) x, (acc ++ t.map (sub acc.length))[j]? = some x → acc[j]? = some x ∨ ∃ i y, j = acc.length + i ∧ t[i]? = some y ∧ x = sub acc.length y := fun j x h => by
    by_cases hj : j < acc.length
    · rw [List.getElem?_append_left hj] at h; exact Or.inl h
    · rw [List.getElem?_append_right (by omega), List.getElem?_map] at h
      cases hy : t[j - acc.length]? with
      | none => rw [hy] at h; cases h
      | some y => rw [hy] at h; exact Or.inr ⟨j - acc.length, y, by omega, hy, (Option.some.inj h).symm⟩
  refine ⟨hl 0 _ h0, fun j x hj h => ?_, fun j x h hk => ?_⟩
  · rcases hwhich j x h with h | ⟨i, y, rfl, hy, rfl⟩
    · obtain ⟨k', y, e, hlt, hy, hk⟩ := ha.1 j x hj h
      exact ⟨k', y, e, hlt, hl _ _ hy, hk⟩
    · by_cases hi : i = 0
      · subst hi
        rw [ht.1] at hy
        obtain rfl := Option.some.inj hy
        exact ⟨0, (p, none), rfl, by omega, hl 0 _ h0, hp⟩
      · obtain ⟨k', z, e, hlt, hz, hkz⟩ := ht.2.1 i y (by omega) hy
        exact ⟨acc.length + k', sub acc.length z, by simp [sub, e]; omega, by omega, hr _ _ hz, hkz⟩
  · rcases hwhich j x h with h | ⟨i, y, rfl, hy, rfl⟩
    · by_cases hj : j = 0
      · subst hj
        exact Or.inr ⟨acc.length, _, hr 0 _ ht.1, rfl⟩
      · rcases ha.2 j x h hk with hq | ⟨i, y, hy, e⟩
        · exact Or.inl ⟨hq, hj⟩
        · exact Or.inr ⟨i, y, hl _ _ hy, e⟩
    · rcases ht.2.2 i y hy hk with hq | ⟨i', z, hz, e⟩
      · cases hq
      · exact Or.inr ⟨acc.length + i', _, hr _ _ hz, by simp [sub, e]; omega⟩

theorem good_grow (f : Nat) (p : PT) (hp : p.kids ≠ []) : ∀ (ks : List PT) (q : Nat → Prop) (acc : List (PT × Option Nat)), (∀ k ∈ ks, Good k (tree f k)) → acc[0]? = some (p, none) → GoodBut q acc →
    (grow f acc ks)[0]? = some (p, none) ∧ GoodBut (fun j => q j ∧ (ks ≠ [] → j ≠ 0)) (grow f acc ks)
  | [], q, acc, _, h0, ha => ⟨h0, ha.1, fun j x h hk => (ha.2 j x h hk).imp_left fun hq => ⟨hq, fun h => absurd rfl h⟩⟩
  | k :: ks, q, acc, hk, h0, ha => by
    rw [grow_cons]
    obtain ⟨h1, h2⟩ := good_add p k q acc (tree f k) hp h0 ha (hk k (by simp))
    obtain ⟨h3, h4⟩ := good_grow f p hp ks _ _ (fun x hx => hk x (by simp [hx])) h1 h2
    exact ⟨h3, h4.1, fun j x h hk => (h4.2 j x h hk).imp_left fun hq => ⟨hq.1.1, fun _ => hq.1.2⟩⟩

theorem good_tree : ∀ (f : Nat) (p : PT), lev f p = true → Good p (tree f p)
  | 0, p, h => by rw [lev] at h; cases h
  | f + 1, p, h => by
    rw [lev_succ, List.all_eq_true] at h
    rw [tree_grow]
    have hb : GoodBut (fun j => j = 0 ∧ p.kids ≠ []) [(p, none)] := by
      refine ⟨fun j x hj h => ?_, fun j x h hk => ?_⟩
      · rw [List.getElem?_eq_none (by simp; omega)] at h; cases h
      · cases j with
        | zero => cases h; exact Or.inl ⟨rfl, hk⟩
        | succ j => cases h
    by_cases hp : p.kids = []
    · rw [hp, grow_nil]
      exact ⟨rfl, hb.1, fun j x h hk => (hb.2 j x h hk).imp_left fun hq => hq.2 hp⟩
    · obtain ⟨h1, h2⟩ := good_grow f p hp p.kids _ [(p, none)] (fun k hk => good_tree f k (h k hk)) rfl hb
      exact ⟨h1, h2.1, fun j x hx hk => (h2.2 j x hx hk).imp_left fun hq => hq.2 hp hq.1.1⟩
end Go.Proofs.YtgnlebbifcmpjaaGreatDoor

/- Plain facts on parts: of a part with nothing wrong each place but the first is in one ahead of it, which is Many; those are Many in which one is. No program. -/
namespace Go.Proofs.YtgnlebbifcmpjaaGreatDoor

theorem places_ok (p : PT) (h : (placesP p).1 = 0) : lev 3 p = true ∧ (tree 3 p).length ≤ 12 ∧ (placesP p).2 = (tree 3 p).map (abs 0 (-1)) ∧ firstBad (placesP p).2 = 0 := by
  have hs := places_spec p
  unfold placesP at h ⊢
  by_cases hc : lev 3 p = true ∧ (tree 4 p).length ≤ 12
  · rw [if_pos hc] at hs
    rw [hs] at h ⊢
    simp only at h ⊢
    by_cases hb : firstBad ((tree 4 p).map (abs 0 (-1))) = 0
    · rw [if_pos hb]
      rw [tree_fuel 3 p hc.1 4 (by omega)] at hc hb ⊢
      exact ⟨hc.1, hc.2, rfl, hb⟩
    · rw [if_neg hb] at h; exact absurd h hb
  · rw [if_neg hc] at hs
    rw [hs] at h
    cases h

theorem chkA_many (p : PT) (h : chkA p = 0) : manyS p.ty.data.toList = !p.kids.isEmpty := by
  unfold chkA at h
  split at h
  · cases h
  · split at h
    · cases h
    · split at h
      · cases h
      · split at h
        · cases h
        · rename_i hf
          have hf' : formedP p = true := by simpa using hf
          unfold formedP at hf'
          cases hm : manyS p.ty.data.toList with
          | true => rw [hm] at hf'; simp at hf'; simp [hf'.1]
          | false => rw [hm] at hf'; simp at hf'; simp [hf']
theorem bad_each : ∀ (L : List (PT × Int)), firstBad L = 0 → ∀ x ∈ L, chkA x.1 = 0
  | [], _, x, hx => by cases hx
  | y :: L, h, x, hx => by
    rw [firstBad] at h
    split at h
    · rename_i h0
      rcases List.mem_cons.1 hx with e | e
      · subst e; exact h0
      · exact bad_each L h x e
    · rename_i h0; exact absurd h h0

theorem tree_facts (p : PT) (h : (placesP p).1 = 0) :
    (placesP p).2.length ≤ 12 ∧ ((placesP p).2[0]? = some (p, -1)) ∧
    (∀ (j : Nat) (x : PT × Int), 1 ≤ j → (placesP p).2[j]? = some x → ∃ (k : Nat) (y : PT × Int), x.2 = (k : Int) ∧ k < j ∧ (placesP p).2[k]? = some y ∧ manyS y.1.ty.data.toList = true) ∧
    (∀ (j : Nat) (x : PT × Int), (placesP p).2[j]? = some x → manyS x.1.ty.data.toList = ((placesP p).2.map (·.2)).contains (j : Int)) := by
  obtain ⟨hl, h12, hL, hb⟩ := places_ok p h
  have hg := good_tree 3 p hl
  rw [hL] at hb ⊢
  generalize tree 3 p = T at *
  obtain ⟨g0, g1, g2⟩ := hg
  have hat : ∀ (j : Nat) (x : PT × Int), (T.map (abs 0 (-1)))[j]? = some x → ∃ t, T[j]? = some t ∧ x = abs 0 (-1) t := fun j x hx => by
    rw [List.getElem?_map] at hx
    cases ht : T[j]? with
    | none => rw [ht] at hx; cases hx
    | some t => rw [ht] at hx; exact ⟨t, rfl, (Option.some.inj hx).symm⟩
  have hto : ∀ (j : Nat) (t : PT × Option Nat), T[j]? = some t → (T.map (abs 0 (-1)))[j]? = some (abs 0 (-1) t) := fun j t ht => by rw [List.getElem?_map, ht]; rfl
  have hmany : ∀ (j : Nat) (t : PT × Option Nat), T[j]? = some t → manyS t.1.ty.data.toList = !t.1.kids.isEmpty := fun j t ht => chkA_many t.1 (bad_each _ hb _ (List.mem_of_getElem? (hto j t ht)))
  refine ⟨by rw [List.length_map]; exact h12, hto 0 _ g0, fun j x hj hx => ?_, fun j x hx => ?_⟩
  · obtain ⟨t, ht, rfl⟩ := hat j x hx
    obtain ⟨k, y, e, hk, hy, hkk⟩ := g1 j t hj ht
    refine ⟨k, abs 0 (-1) y, by simp [abs, e], hk, hto k y hy, ?_⟩
    show manyS y.1.ty.data.toList = true
    rw [hmany k y hy]
    cases hq : y.1.kids with
    | nil => exact absurd hq hkk
    | cons a l => rfl
  · obtain ⟨t, ht, rfl⟩ := hat j x hx
    show manyS t.1.ty.data.toList = _
    rw [hmany j t ht, Bool.eq_iff_iff]
    constructor
    · intro hq
      have hne : t.1.kids ≠ [] := fun e => by rw [e] at hq; cases hq
      rcases g2 j t ht hne with hf | ⟨i, y, hy, e⟩
      · cases hf
      · rw [List.contains_iff_mem]
        exact List.mem_map.2 ⟨_, List.mem_of_getElem? (hto i y hy), by simp [abs, e]⟩
    · intro hq
      rw [List.contains_iff_mem] at hq
      obtain ⟨x, hx, hxj⟩ := List.mem_map.1 hq
      obtain ⟨i, hi⟩ := List.mem_iff_getElem?.1 hx
      obtain ⟨y, hy, rfl⟩ := hat i x hi
      have hye : y.2 = some j := by
        cases hyy : y.2 with
        | none => simp [abs, hyy] at hxj
        | some k => simp [abs, hyy] at hxj; rw [show k = j from by omega]
      have hi1 : 1 ≤ i := by
        rcases Nat.eq_zero_or_pos i with e | e
        · subst e; rw [g0] at hy; obtain rfl := Option.some.inj hy; cases hye
        · exact e
      obtain ⟨k, z, e, _, hz, hzk⟩ := g1 i y hi1 hy
      rw [hye] at e
      obtain rfl := Option.some.inj e
      rw [ht] at hz
      obtain rfl := Option.some.inj hz
      cases hq : t.1.kids with
      | nil => exact absurd hq hzk
      | cons a l => rfl
end Go.Proofs.YtgnlebbifcmpjaaGreatDoor

/- Plain facts: where a part is, by where the one is that it is in; what is led to leads to itself. No program. -/
namespace Go.Proofs.YtgnlebbifcmpjaaGreatDoor

theorem fold_pre : ∀ (b : List (PT × Int)) (acc : List (List UInt8)), ∃ t, b.foldl (fun wh x => wh ++ [stepW wh x]) acc = acc ++ t
  | [], acc => ⟨[], by simp⟩
  | x :: b, acc => by
    obtain ⟨t, h⟩ := fold_pre b (acc ++ [stepW acc x])
    exact ⟨stepW acc x :: t, by rw [List.foldl_cons, h]; simp⟩
theorem where_pre (a b : List (PT × Int)) : ∃ t, whereP (a ++ b) = whereP a ++ t := by
  unfold whereP
  rw [List.foldl_append]
  exact fold_pre b _
theorem where_part (l : List (PT × Int)) (m j : Nat) (hm : m ≤ l.length) (hj : j < m) : (whereP l).getD j [] = (whereP (l.take m)).getD j [] := by
  obtain ⟨t, ht⟩ := where_pre (l.take m) (l.drop m)
  rw [List.take_append_drop] at ht
  have hl : (whereP (l.take m)).length = m := by rw [whereP_length, List.length_take]; omega
  rw [ht, List.getD_eq_getElem?_getD, List.getD_eq_getElem?_getD, List.getElem?_append_left (by omega)]
theorem from_part (l : List (PT × Int)) (m : Nat) (hm : m ≤ l.length) (i : Int) (hi : i < m) : fromW (whereP (l.take m)) i = fromW (whereP l) i := by
  unfold fromW
  by_cases h : i < 0
  · rw [if_pos h, if_pos h]
  · rw [if_neg h, if_neg h, where_part l m i.toNat hm (by omega)]
theorem where_at (l : List (PT × Int)) (k : Nat) (hk : k < l.length) (hin : (l.getD k (pt0, 0)).2 < k) :
    (whereP l).getD k [] = if (l.getD k (pt0, 0)).1.loc.data.toList = [] then fromW (whereP l) (l.getD k (pt0, 0)).2 else ledU (fromW (whereP l) (l.getD k (pt0, 0)).2) (l.getD k (pt0, 0)).1.loc.data.toList := by
  rw [where_part l (k + 1) k (by omega) (by omega)]
  have e : whereP (l.take (k + 1)) = whereP (l.take k) ++ [stepW (whereP (l.take k)) (l.getD k (pt0, 0))] := by
    rw [List.take_add_one, List.getElem?_eq_getElem hk, List.getD_eq_getElem?_getD, List.getElem?_eq_getElem hk]
    exact whereP_snoc _ _
  have hl : (whereP (l.take k)).length = k := by rw [whereP_length, List.length_take]; omega
  rw [e, List.getD_eq_getElem?_getD, List.getElem?_append_right (by omega), hl, Nat.sub_self]
  show stepW (whereP (l.take k)) (l.getD k (pt0, 0)) = _
  unfold stepW
  rw [from_part l k (by omega) _ hin]
theorem in_lt (p : PT) (h : (placesP p).1 = 0) (k : Nat) (hk : k < (placesP p).2.length) : ((placesP p).2.getD k (pt0, 0)).2 < k := by
  obtain ⟨-, h0, h1, -⟩ := tree_facts p h
  rw [List.getD_eq_getElem?_getD]
  cases k with
  | zero => rw [h0]; simp
  | succ k =>
    rw [List.getElem?_eq_getElem hk]
    obtain ⟨j, y, e, hj, -⟩ := h1 (k + 1) _ (by omega) (List.getElem?_eq_getElem hk)
    show ((placesP p).2[k + 1]).2 < _
    rw [e]
    omega
def abL : List UInt8 := [97, 58, 98]
def abU : UL := ⟨[97], false, [], [98], false, [], false, []⟩
theorem ab_parse : parseU abL = (abU, 0) := by kernel_rfl
theorem ab_check : checkU abU = 0 := by kernel_rfl
/-- What is led to has a scheme, and leads to itself. -/
theorem led_abs (a b : List UInt8) (h : ledU a b ≠ []) : (parseU (ledU a b)).2 = 0 ∧ (parseU (ledU a b)).1.sch ≠ [] ∧ ledU abL (ledU a b) = ledU a b := by
  unfold ledU at h
  by_cases h1 : (parseU a).2 ≠ 0
  · rw [if_pos h1] at h; exact absurd rfl h
  by_cases h2 : (parseU b).2 ≠ 0
  · rw [if_neg h1, if_pos h2] at h; exact absurd rfl h
  by_cases h3 : (leadU (parseU a).1 (parseU b).1).2 ≠ 0
  · rw [if_neg h1, if_neg h2, if_pos h3] at h; exact absurd rfl h
  have h3' : (leadU (parseU a).1 (parseU b).1).2 = 0 := by simpa using h3
  have e : ledU a b = (printU (leadU (parseU a).1 (parseU b).1).1).1 := by unfold ledU; rw [if_neg h1, if_neg h2, if_neg h3]
  obtain ⟨k1, k2, -, -⟩ := lead_keeps h3'
  have hs := lead_self h3' ab_check (by decide)
  generalize (leadU (parseU a).1 (parseU b).1).1 = x at *
  have ep : printU x = (textU x, 0) := by unfold printU; rw [if_pos k1]
  rw [e, ep]
  simp only
  have et := parse_text k1
  rw [et]
  refine ⟨rfl, by simpa using k2, ?_⟩
  unfold ledU
  rw [ab_parse, et]
  simp only
  rw [hs, if_neg (by simp), if_neg (by simp), if_neg (by simp), ep]
end Go.Proofs.YtgnlebbifcmpjaaGreatDoor

/- Plain facts on goals: they come one after another; where each leads is an address or nothing; the part that is meant first is found. No program. -/
namespace Go.Proofs.YtgnlebbifcmpjaaGreatDoor

theorem goalsGo_pre (low : List UInt8 → List UInt8) (l : List PT) (wh : List (List UInt8)) : ∀ (r : List PT) (k : Nat) (acc G : List GL), goalsGo low l wh k r acc = some G → ∃ t, G = acc ++ t
  | [], k, acc, G, h => ⟨[], by rw [goalsGo] at h; injection h with h; simp [h]⟩
  | p :: r, k, acc, G, h => by
    rw [goalsGo] at h
    by_cases ht : p.ty.data.toList = htmlS
    · rw [if_pos ht] at h
      cases hf : findP low p.body with
      | none => rw [hf] at h; cases h
      | some ls =>
        rw [hf] at h
        obtain ⟨t, e⟩ := goalsGo_pre low l wh r (k + 1) _ G h
        exact ⟨_, by rw [e, List.append_assoc]⟩
    · rw [if_neg ht] at h
      exact goalsGo_pre low l wh r (k + 1) acc G h
/-- The j-th link of a page is the goal behind those ahead of it. -/
theorem goal_at (low : List UInt8 → List UInt8) (L : List PT) (wh : List (List UInt8)) (k N : Nat) (acc G : List GL) (ls : List LK) (j : Nat) (hj : j < ls.length) (r : List PT)
    (h : goalsGo low L wh (k + 1) r (acc ++ ls.map (goalOf L wh k N)) = some G) :
    acc.length + j < G.length ∧ G[acc.length + j]? = some (goalOf L wh k N (ls.getD j (0, []))) := by
  obtain ⟨t, rfl⟩ := goalsGo_pre low L wh r _ _ G h
  refine ⟨by simp; omega, ?_⟩
  rw [List.getElem?_append_left (by simp; omega), List.getElem?_append_right (by omega), Nat.add_sub_cancel_left, List.getElem?_map, List.getElem?_eq_getElem hj, List.getD_eq_getElem?_getD, List.getElem?_eq_getElem hj]
  rfl
theorem firstP_ge (ok : Nat → PT → Bool) : ∀ (l : List PT) (k : Nat), -1 ≤ firstP ok k l ∧ firstP ok k l < (k : Int) + l.length ∨ firstP ok k l = -1
  | [], k => Or.inr rfl
  | p :: l, k => by
    rw [firstP]
    split
    · left; simp; omega
    · rcases firstP_ge ok l (k + 1) with h | h
      · left; simp; omega
      · right; exact h
theorem findW_range (l : List PT) (wh : List (List UInt8)) (tw : List UInt8) : -1 ≤ findW l wh tw ∧ (findW l wh tw < (l.length : Int) ∨ findW l wh tw = -1) := by
  unfold findW
  split
  · exact ⟨by omega, Or.inr rfl⟩
  · split
    · rcases firstP_ge (okID ((noFr tw).drop 4)) l 0 with h | h <;> omega
    · rcases firstP_ge (okLoc wh (noFr tw)) l 0 with h | h <;> omega
/-- Part n is meant by the address. -/
def meantP (L : List PT) (wh : List (List UInt8)) (tw : List UInt8) (n : Nat) : Bool :=
  (if Lib.hasPrefix (noFr tw) cidS = true then !(L.getD n pt0).id.data.toList.isEmpty && (noFr tw == cidS ++ (L.getD n pt0).id.data.toList)
    else !(L.getD n pt0).loc.data.toList.isEmpty && !(wh.getD n []).isEmpty && (noFr (wh.getD n []) == noFr tw)) && !tw.isEmpty && !manyS (L.getD n pt0).ty.data.toList
theorem firstP_at (ok : Nat → PT → Bool) : ∀ (l : List PT) (k n : Nat), n < l.length → (∀ m, m < n → ¬ (manyS (l.getD m pt0).ty.data.toList = false ∧ ok (k + m) (l.getD m pt0) = true)) → (manyS (l.getD n pt0).ty.data.toList = false ∧ ok (k + n) (l.getD n pt0) = true) → firstP ok k l = ((k + n : Nat) : Int)
  | [], k, n, h, _, _ => by simp at h
  | p :: l, k, 0, _, _, h => by rw [firstP, if_pos (by simpa using h)]; simp
  | p :: l, k, n + 1, h, hm, h1 => by
    have h0 := hm 0 (by omega)
    rw [firstP, if_neg (by simpa using h0), firstP_at ok l (k + 1) n (by simpa using h) (fun m hmn => by have := hm (m + 1) (by omega); simpa [Nat.add_assoc, Nat.add_comm 1 m] using this) (by simpa [Nat.add_assoc, Nat.add_comm 1 n] using h1)]
    congr 1
    omega
theorem noFr_cons (c : UInt8) (r : List UInt8) (h : c ≠ 35) : noFr (c :: r) ≠ [] := by
  unfold noFr
  rw [cutB, if_neg h]
  cases cutB 35 r <;> simp
theorem noFr_led (a b : List UInt8) (h : ledU a b ≠ []) : noFr (ledU a b) ≠ [] := by
  unfold ledU at h ⊢
  by_cases h1 : (parseU a).2 ≠ 0
  · rw [if_pos h1] at h; exact absurd rfl h
  by_cases h2 : (parseU b).2 ≠ 0
  · rw [if_neg h1, if_pos h2] at h; exact absurd rfl h
  by_cases h3 : (leadU (parseU a).1 (parseU b).1).2 ≠ 0
  · rw [if_neg h1, if_neg h2, if_pos h3] at h; exact absurd rfl h
  have h3' : (leadU (parseU a).1 (parseU b).1).2 = 0 := by simpa using h3
  rw [if_neg h1, if_neg h2, if_neg h3]
  obtain ⟨k1, k2, -, -⟩ := lead_keeps h3'
  generalize (leadU (parseU a).1 (parseU b).1).1 = x at *
  have ep : printU x = (textU x, 0) := by unfold printU; rw [if_pos k1]
  rw [ep]
  simp only
  have hf : wrtU x = true := by
    unfold checkU at k1
    split at k1
    · cases k1
    · split at k1
      · cases k1
      · rename_i hh; simpa using hh
  cases hs : x.sch with
  | nil => rw [hs] at k2; simp at k2
  | cons c r =>
    have hc : c ≠ 35 := by
      rintro rfl
      unfold wrtU at hf
      rw [hs] at hf
      simp [schemeS, isLowB] at hf
    unfold textU
    rw [hs]
    show noFr (c :: _) ≠ []
    exact noFr_cons c _ hc
theorem hp_drop {a b : List UInt8} (h : Lib.hasPrefix a b = true) : a = b ++ a.drop b.length := by
  unfold Lib.hasPrefix at h
  obtain ⟨t, rfl⟩ := List.isPrefixOf_iff_prefix.1 h
  simp
/-- The first that is meant is the one that is found. -/
theorem find_meant (L : List PT) (wh : List (List UInt8)) (tw : List UInt8) (n : Nat) (hn : n < L.length) (hne : tw ≠ [] → noFr tw ≠ []) (hb : ∀ m, m < n → meantP L wh tw m = false) (h : meantP L wh tw n = true) : findW L wh tw = (n : Int) := by
  have ht : tw ≠ [] := by
    rintro rfl
    unfold meantP at h
    simp at h
  have he : tw.isEmpty = false := by simpa using ht
  have hne' := hne ht
  unfold findW
  rw [if_neg ht]
  by_cases hp : Lib.hasPrefix (noFr tw) cidS = true
  · rw [if_pos hp]
    have hd := hp_drop hp
    have key : ∀ m, meantP L wh tw m = true ↔ (manyS (L.getD m pt0).ty.data.toList = false ∧ okID ((noFr tw).drop 4) (0 + m) (L.getD m pt0) = true) := fun m => by
      unfold meantP okID
      rw [if_pos hp, he]
      have e : (noFr tw == cidS ++ (L.getD m pt0).id.data.toList) = ((L.getD m pt0).id.data.toList == (noFr tw).drop 4) := by
        rw [Bool.eq_iff_iff, beq_iff_eq, beq_iff_eq]
        constructor
        · intro e; rw [e]; rfl
        · intro e; rw [e]; exact hd
      rw [e]
      simp
      constructor
      · rintro ⟨⟨a, b⟩, c⟩; exact ⟨c, a, b⟩
      · rintro ⟨c, a, b⟩; exact ⟨⟨a, b⟩, c⟩
    have := firstP_at (okID ((noFr tw).drop 4)) L 0 n hn (fun m hm hc => by have := hb m hm; rw [(key m).2 hc] at this; cases this) ((key n).1 h)
    simpa using this
  · rw [if_neg hp]
    have key : ∀ m, meantP L wh tw m = true ↔ (manyS (L.getD m pt0).ty.data.toList = false ∧ okLoc wh (noFr tw) (0 + m) (L.getD m pt0) = true) := fun m => by
      unfold meantP okLoc
      rw [if_neg hp, he, Nat.zero_add]
      have e : noFr (wh.getD m []) = noFr tw → (wh.getD m []).isEmpty = false := fun e => by
        cases hw : wh.getD m [] with
        | nil => rw [hw] at e; exact absurd e.symm hne'
        | cons _ _ => rfl
      simp only [Bool.and_eq_true, Bool.not_eq_true', beq_iff_eq, Bool.not_false]
      constructor
      · rintro ⟨⟨⟨⟨a, -⟩, b⟩, -⟩, c⟩; exact ⟨c, a, b⟩
      · rintro ⟨c, a, b⟩; exact ⟨⟨⟨⟨a, e b⟩, b⟩, trivial⟩, c⟩
    have := firstP_at (okLoc wh (noFr tw)) L 0 n hn (fun m hm hc => by have := hb m hm; rw [(key m).2 hc] at this; cases this) ((key n).1 h)
    simpa using this
end Go.Proofs.YtgnlebbifcmpjaaGreatDoor

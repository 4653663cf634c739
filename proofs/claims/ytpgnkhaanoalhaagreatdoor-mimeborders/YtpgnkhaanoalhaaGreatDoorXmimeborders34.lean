/- Plain facts on parts: what is put into the list of places are the part and all in it, depth first, each with the number of the one that it is in, if they are few enough and not too deep. No program. -/
import Derived.Test.YtpgnkhaanoalhaaGreatDoorXmimeborders2
import Derived.Test.YtpgnkhaanoalhaaGreatDoorXmimeborders3
namespace Go.Proofs.YtpgnkhaanoalhaaGreatDoor

/-- What is in a part that lies behind others: one number more. -/
def sub (n : Nat) (x : PT × Option Nat) : PT × Option Nat := (x.1, some (match x.2 with | none => 0 | some j => j + n))
def abs (n : Nat) (inn : Int) (x : PT × Option Nat) : PT × Int := (x.1, match x.2 with | none => inn | some j => ((n + j : Nat) : Int))
/-- A part and all in it, depth first, each with the number of the one that it is in; none: the first. -/
def tree : Nat → PT → List (PT × Option Nat)
  | 0, _ => []
  | f + 1, p => p.kids.foldl (fun acc k => acc ++ (tree f k).map (sub acc.length)) [(p, none)]
def grow (f : Nat) (acc : List (PT × Option Nat)) (ks : List PT) : List (PT × Option Nat) := ks.foldl (fun acc k => acc ++ (tree f k).map (sub acc.length)) acc
theorem grow_nil (f : Nat) (acc : List (PT × Option Nat)) : grow f acc [] = acc := rfl
theorem grow_cons (f : Nat) (acc : List (PT × Option Nat)) (k : PT) (ks : List PT) : grow f acc (k :: ks) = grow f (acc ++ (tree f k).map (sub acc.length)) ks := rfl
theorem tree_grow (f : Nat) (p : PT) : tree (f + 1) p = grow f [(p, none)] p.kids := by rw [tree]; rfl
theorem grow_le (f : Nat) : ∀ (ks : List PT) (acc : List (PT × Option Nat)), acc.length ≤ (grow f acc ks).length
  | [], acc => Nat.le_refl _
  | k :: ks, acc => by
    rw [grow_cons]
    have := grow_le f ks (acc ++ (tree f k).map (sub acc.length))
    rw [List.length_append] at this
    omega
theorem tree_pos (f : Nat) (p : PT) : 1 ≤ (tree (f + 1) p).length := by
  rw [tree_grow]; exact grow_le f p.kids [(p, none)]
/-- As many levels at most. -/
def lev : Nat → PT → Bool
  | 0, _ => false
  | n + 1, p => p.kids.all (lev n)
theorem lev_succ (n : Nat) (p : PT) : lev (n + 1) p = p.kids.all (lev n) := by rw [lev]

theorem abs_sub (n a : Nat) (inn : Int) (x : PT × Option Nat) : abs n inn (sub a x) = abs (n + a) n x := by
  obtain ⟨x, j⟩ := x
  cases j with
  | none => simp [abs, sub]
  | some j => simp only [abs, sub]; congr 1; omega

theorem putAll_spec (f : Nat) (ih : ∀ l p inn, l.length ≤ 12 → put (f + 1) l p (4 - f) inn = if lev f p = true ∧ l.length + (tree (f + 1) p).length ≤ 12 then some (l ++ (tree (f + 1) p).map (abs l.length inn)) else none) (l : List (PT × Int)) (inn : Int) :
    ∀ (ks : List PT) (acc : List (PT × Option Nat)), l.length + acc.length ≤ 12 → putAll (f + 1) (4 - f) l.length (l ++ acc.map (abs l.length inn)) ks =
      if ks.all (lev f) = true ∧ l.length + (grow (f + 1) acc ks).length ≤ 12 then some (l ++ (grow (f + 1) acc ks).map (abs l.length inn)) else none
  | [], acc, h => by rw [putAll_nil, grow_nil, if_pos ⟨rfl, h⟩]
  | k :: ks, acc, h => by
    have hk := ih (l ++ acc.map (abs l.length inn)) k l.length (by rw [List.length_append, List.length_map]; exact h)
    rw [List.length_append, List.length_map] at hk
    have hg := grow_le (f + 1) ks (acc ++ (tree (f + 1) k).map (sub acc.length))
    rw [List.length_append, List.length_map] at hg
    rw [grow_cons]
    by_cases hc : lev f k = true ∧ l.length + acc.length + (tree (f + 1) k).length ≤ 12
    · rw [if_pos hc] at hk
      rw [putAll_some _ _ _ _ _ _ _ hk]
      have e : (l ++ acc.map (abs l.length inn)) ++ (tree (f + 1) k).map (abs (l.length + acc.length) l.length) = l ++ (acc ++ (tree (f + 1) k).map (sub acc.length)).map (abs l.length inn) := by
        rw [List.map_append, List.map_map, List.append_assoc]
        congr 2
        exact List.map_congr_left fun x _ => (abs_sub _ _ _ x).symm
      rw [e, putAll_spec f ih l inn ks _ (by rw [List.length_append, List.length_map]; omega), List.all_cons, hc.1, Bool.true_and]
    · rw [if_neg hc] at hk
      rw [putAll_none _ _ _ _ _ _ hk, if_neg]
      rintro ⟨h1, h2⟩
      rw [List.all_cons, Bool.and_eq_true] at h1
      exact hc ⟨h1.1, by omega⟩

theorem put_spec : ∀ (f : Nat), f ≤ 3 → ∀ (l : List (PT × Int)) (p : PT) (inn : Int), l.length ≤ 12 →
    put (f + 1) l p (4 - f) inn = if lev f p = true ∧ l.length + (tree (f + 1) p).length ≤ 12 then some (l ++ (tree (f + 1) p).map (abs l.length inn)) else none
  | 0, _, l, p, inn, _ => by rw [put_stop _ _ _ _ _ (Or.inr (by omega)), if_neg (fun h => by have := h.1; rw [lev] at this; cases this)]
  | f + 1, hf, l, p, inn, hl => by
    by_cases hs : l.length = 12
    · rw [put_stop _ _ _ _ _ (Or.inl hs), if_neg]
      have := tree_pos (f + 1) p
      omega
    · rw [put_go _ _ _ _ _ (by omega), show 4 - (f + 1) + 1 = 4 - f from by omega]
      have := putAll_spec f (fun l p inn hl => put_spec f (by omega) l p inn hl) l inn p.kids [(p, none)] (by simp; omega)
      rw [show l ++ [(p, none)].map (abs l.length inn) = l ++ [(p, inn)] from rfl] at this
      rw [this, ← tree_grow, ← lev_succ]
/-- The list of places of a part, as the document says it. -/
theorem places_spec (p : PT) : put 4 [] p 1 (-1) = if lev 3 p = true ∧ (tree 4 p).length ≤ 12 then some ((tree 4 p).map (abs 0 (-1))) else none := by
  have := put_spec 3 (by omega) [] p (-1) (by simp)
  simpa using this
end Go.Proofs.YtpgnkhaanoalhaaGreatDoor

/- Plain facts on parts: each part is in one ahead of it, which has parts; each that has parts has one in it. No program. -/
namespace Go.Proofs.YtpgnkhaanoalhaaGreatDoor

theorem grow_same (f g : Nat) : ∀ (ks : List PT) (acc : List (PT × Option Nat)), (∀ k ∈ ks, tree g k = tree f k) → grow g acc ks = grow f acc ks
  | [], _, _ => rfl
  | k :: ks, acc, h => by
    rw [grow_cons, grow_cons, h k (by simp)]
    exact grow_same f g ks _ fun x hx => h x (by simp [hx])
theorem tree_fuel : ∀ (f : Nat) (p : PT), lev f p = true → ∀ g, f ≤ g → tree g p = tree f p
  | 0, p, h, _, _ => by rw [lev] at h; cases h
  | f + 1, p, h, 0, hg => by omega
  | f + 1, p, h, g + 1, hg => by
    rw [lev_succ, List.all_eq_true] at h
    rw [tree_grow, tree_grow]
    exact grow_same f g p.kids _ fun k hk => tree_fuel f k (h k hk) g (by omega)

/-- Each but the first is in one ahead of it, which has parts; each that has parts has one in it, but for those that q says. -/
def GoodBut (q : Nat → Prop) (T : List (PT × Option Nat)) : Prop :=
  (∀ (j : Nat) (x : PT × Option Nat), 1 ≤ j → T[j]? = some x → ∃ (k : Nat) (y : PT × Option Nat), x.2 = some k ∧ k < j ∧ T[k]? = some y ∧ y.1.kids ≠ []) ∧
  (∀ (j : Nat) (x : PT × Option Nat), T[j]? = some x → x.1.kids ≠ [] → q j ∨ ∃ (i : Nat) (y : PT × Option Nat), T[i]? = some y ∧ y.2 = some j)
def Good (p : PT) (T : List (PT × Option Nat)) : Prop := T[0]? = some (p, none) ∧ GoodBut (fun _ => False) T

theorem good_add (p k : PT) (q : Nat → Prop) (acc t : List (PT × Option Nat)) (hp : p.kids ≠ []) (h0 : acc[0]? = some (p, none)) (ha : GoodBut q acc) (ht : Good k t) :
    (acc ++ t.map (sub acc.length))[0]? = some (p, none) ∧ GoodBut (fun j => q j ∧ j ≠ 0) (acc ++ t.map (sub acc.length)) := by
  have hpos : 0 < acc.length := by
    rcases Nat.eq_zero_or_pos acc.length with h | h
    · rw [List.eq_nil_of_length_eq_zero h] at h0; cases h0
    · exact h
  have hl : ∀ (i : Nat) x, acc[i]? = some x → (acc ++ t.map (sub acc.length))[i]? = some x := fun i x h => by
    have hi : i < acc.length := (List.getElem?_eq_some_iff.1 h).1
    rw [List.getElem?_append_left hi]; exact h
  have hr : ∀ (i : Nat) x, t[i]? = some x → (acc ++ t.map (sub acc.length))[acc.length + i]? = some (sub acc.length x) := fun i x h => by
    rw [List.getElem?_append_right (by omega), show acc.length + i - acc.length = i from by omega, List.getElem?_map, h]; rfl
  have hwhich : ∀ (j : Nat) x, (acc ++ t.map (sub acc.length))[j]? = some x → acc[j]? = some x ∨ ∃ i y, j = acc.length + i ∧ t[i]? = some y ∧ x = sub acc.length y := fun j x h => by
    by_cases hj : j < acc.length
    · rw [List.getElem?_append_left hj] at h; exact Or.inl h
    · rw [List.getElem?_append_right (by omega), List.getElem?_map] at h
      cases hy : t[j - acc.length]? with
      | none => rw [hy] at h; cases h
      | some y => rw [hy] at h; exact Or.inr ⟨j - acc.length, y, by omega, hy, (Option.some.inj h).symm⟩
  refine ⟨hl 0 _ h0, fun j x hj h => ?_, fun j x h hk => ?_⟩
  · rcases hwhich j x h with h | ⟨i, y, rfl, hy, rfl⟩
    · obtain ⟨k', y, e, hlt, hy, hk⟩ := ha.1 j x hj h
      exact ⟨k', y, e, hlt, hl _ _ hy, hk⟩
    · by_cases hi : i = 0
      · subst hi
        rw [ht.1] at hy
        obtain rfl := Option.some.inj hy
        exact ⟨0, (p, none), rfl, by omega, hl 0 _ h0, hp⟩
      · obtain ⟨k', z, e, hlt, hz, hkz⟩ := ht.2.1 i y (by omega) hy
        exact ⟨acc.length + k', sub acc.length z, by simp [sub, e]; omega, by omega, hr _ _ hz, hkz⟩
  · rcases hwhich j x h with h | ⟨i, y, rfl, hy, rfl⟩
    · by_cases hj : j = 0
      · subst hj
        exact Or.inr ⟨acc.length, _, hr 0 _ ht.1, rfl⟩
      · rcases ha.2 j x h hk with hq | ⟨i, y, hy, e⟩
        · exact Or.inl ⟨hq, hj⟩
        · exact Or.inr ⟨i, y, hl _ _ hy, e⟩
    · rcases ht.2.2 i y hy hk with hq | ⟨i', z, hz, e⟩
      · cases hq
      · exact Or.inr ⟨acc.length + i', _, hr _ _ hz, by simp [sub, e]; omega⟩

theorem good_grow (f : Nat) (p : PT) (hp : p.kids ≠ []) : ∀ (ks : List PT) (q : Nat → Prop) (acc : List (PT × Option Nat)), (∀ k ∈ ks, Good k (tree f k)) → acc[0]? = some (p, none) → GoodBut q acc →
    (grow f acc ks)[0]? = some (p, none) ∧ GoodBut (fun j => q j ∧ (ks ≠ [] → j ≠ 0)) (grow f acc ks)
  | [], q, acc, _, h0, ha => ⟨h0, ha.1, fun j x h hk => (ha.2 j x h hk).imp_left fun hq => ⟨hq, fun h => absurd rfl h⟩⟩
  | k :: ks, q, acc, hk, h0, ha => by
    rw [grow_cons]
    obtain ⟨h1, h2⟩ := good_add p k q acc (tree f k) hp h0 ha (hk k (by simp))
    obtain ⟨h3, h4⟩ := good_grow f p hp ks _ _ (fun x hx => hk x (by simp [hx])) h1 h2
    exact ⟨h3, h4.1, fun j x h hk => (h4.2 j x h hk).imp_left fun hq => ⟨hq.1.1, fun _ => hq.1.2⟩⟩

theorem good_tree : ∀ (f : Nat) (p : PT), lev f p = true → Good p (tree f p)
  | 0, p, h => by rw [lev] at h; cases h
  | f + 1, p, h => by
    rw [lev_succ, List.all_eq_true] at h
    rw [tree_grow]
    have hb : GoodBut (fun j => j = 0 ∧ p.kids ≠ []) [(p, none)] := by
      refine ⟨fun j x hj h => ?_, fun j x h hk => ?_⟩
      · rw [List.getElem?_eq_none (by simp; omega)] at h; cases h
      · cases j with
        | zero => cases h; exact Or.inl ⟨rfl, hk⟩
        | succ j => cases h
    by_cases hp : p.kids = []
    · rw [hp, grow_nil]
      exact ⟨rfl, hb.1, fun j x h hk => (hb.2 j x h hk).imp_left fun hq => hq.2 hp⟩
    · obtain ⟨h1, h2⟩ := good_grow f p hp p.kids _ [(p, none)] (fun k hk => good_tree f k (h k hk)) rfl hb
      exact ⟨h1, h2.1, fun j x hx hk => (h2.2 j x hx hk).imp_left fun hq => hq.2 hp hq.1.1⟩
end Go.Proofs.YtpgnkhaanoalhaaGreatDoor

/- Plain facts on parts: of a part with nothing wrong each place but the first is in one ahead of it, which is Many; those are Many in which one is. No program. -/
namespace Go.Proofs.YtpgnkhaanoalhaaGreatDoor

theorem places_ok (p : PT) (h : (placesP p).1 = 0) : lev 3 p = true ∧ (tree 3 p).length ≤ 12 ∧ (placesP p).2 = (tree 3 p).map (abs 0 (-1)) ∧ firstBad (placesP p).2 = 0 := by
  have hs := places_spec p
  unfold placesP at h ⊢
  by_cases hc : lev 3 p = true ∧ (tree 4 p).length ≤ 12
  · rw [if_pos hc] at hs
    rw [hs] at h ⊢
    simp only at h ⊢
    by_cases hb : firstBad ((tree 4 p).map (abs 0 (-1))) = 0
    · rw [if_pos hb]
      rw [tree_fuel 3 p hc.1 4 (by omega)] at hc hb ⊢
      exact ⟨hc.1, hc.2, rfl, hb⟩
    · rw [if_neg hb] at h; exact absurd h hb
  · rw [if_neg hc] at hs
    rw [hs] at h
    cases h

theorem chkA_many (p : PT) (h : chkA p = 0) : manyS p.ty.data.toList = !p.kids.isEmpty := by
  unfold chkA at h
  split at h
  · cases h
  · split at h
    · cases h
    · split at h
      · cases h
      · split at h
        · cases h
        · rename_i hf
          have hf' : formedP p = true := by simpa using hf
          unfold formedP at hf'
          cases hm : manyS p.ty.data.toList with
          | true => rw [hm] at hf'; simp at hf'; simp [hf'.1]
          | false => rw [hm] at hf'; simp at hf'; simp [hf']
theorem bad_each : ∀ (L : List (PT × Int)), firstBad L = 0 → ∀ x ∈ L, chkA x.1 = 0
  | [], _, x, hx => by cases hx
  | y :: L, h, x, hx => by
    rw [firstBad] at h
    split at h
    · rename_i h0
      rcases List.mem_cons.1 hx with e | e
      · subst e; exact h0
      · exact bad_each L h x e
    · rename_i h0; exact absurd h h0

theorem tree_facts (p : PT) (h : (placesP p).1 = 0) :
    (placesP p).2.length ≤ 12 ∧ ((placesP p).2[0]? = some (p, -1)) ∧
    (∀ (j : Nat) (x : PT × Int), 1 ≤ j → (placesP p).2[j]? = some x → ∃ (k : Nat) (y : PT × Int), x.2 = (k : Int) ∧ k < j ∧ (placesP p).2[k]? = some y ∧ manyS y.1.ty.data.toList = true) ∧
    (∀ (j : Nat) (x : PT × Int), (placesP p).2[j]? = some x → manyS x.1.ty.data.toList = ((placesP p).2.map (·.2)).contains (j : Int)) := by
  obtain ⟨hl, h12, hL, hb⟩ := places_ok p h
  have hg := good_tree 3 p hl
  rw [hL] at hb ⊢
  generalize tree 3 p = T at *
  obtain ⟨g0, g1, g2⟩ := hg
  have hat : ∀ (j : Nat) (x : PT × Int), (T.map (abs 0 (-1)))[j]? = some x → ∃ t, T[j]? = some t ∧ x = abs 0 (-1) t := fun j x hx => by
    rw [List.getElem?_map] at hx
    cases ht : T[j]? with
    | none => rw [ht] at hx; cases hx
    | some t => rw [ht] at hx; exact ⟨t, rfl, (Option.some.inj hx).symm⟩
  have hto : ∀ (j : Nat) (t : PT × Option Nat), T[j]? = some t → (T.map (abs 0 (-1)))[j]? = some (abs 0 (-1) t) := fun j t ht => by rw [List.getElem?_map, ht]; rfl
  have hmany : ∀ (j : Nat) (t : PT × Option Nat), T[j]? = some t → manyS t.1.ty.data.toList = !t.1.kids.isEmpty := fun j t ht => chkA_many t.1 (bad_each _ hb _ (List.mem_of_getElem? (hto j t ht)))
  refine ⟨by rw [List.length_map]; exact h12, hto 0 _ g0, fun j x hj hx => ?_, fun j x hx => ?_⟩
  · obtain ⟨t, ht, rfl⟩ := hat j x hx
    obtain ⟨k, y, e, hk, hy, hkk⟩ := g1 j t hj ht
    refine ⟨k, abs 0 (-1) y, by simp [abs, e], hk, hto k y hy, ?_⟩
    show manyS y.1.ty.data.toList = true
    rw [hmany k y hy]
    cases hq : y.1.kids with
    | nil => exact absurd hq hkk
    | cons a l => rfl
  · obtain ⟨t, ht, rfl⟩ := hat j x hx
    show manyS t.1.ty.data.toList = _
    rw [hmany j t ht, Bool.eq_iff_iff]
    constructor
    · intro hq
      have hne : t.1.kids ≠ [] := fun e => by rw [e] at hq; cases hq
      rcases g2 j t ht hne with hf | ⟨i, y, hy, e⟩
      · cases hf
      · rw [List.contains_iff_mem]
        exact List.mem_map.2 ⟨_, List.mem_of_getElem? (hto i y hy), by simp [abs, e]⟩
    · intro hq
      rw [List.contains_iff_mem] at hq
      obtain ⟨x, hx, hxj⟩ := List.mem_map.1 hq
      obtain ⟨i, hi⟩ := List.mem_iff_getElem?.1 hx
      obtain ⟨y, hy, rfl⟩ := hat i x hi
      have hye : y.2 = some j := by
        cases hyy : y.2 with
        | none => simp [abs, hyy] at hxj
        | some k => simp [abs, hyy] at hxj; rw [show k = j from by omega]
      have hi1 : 1 ≤ i := by
        rcases Nat.eq_zero_or_pos i with e | e
        · subst e; rw [g0] at hy; obtain rfl := Option.some.inj hy; cases hye
        · exact e
      obtain ⟨k, z, e, _, hz, hzk⟩ := g1 i y hi1 hy
      rw [hye] at e
      obtain rfl := Option.some.inj e
      rw [ht] at hz
      obtain rfl := Option.some.inj hz
      cases hq : t.1.kids with
      | nil => exact absurd hq hzk
      | cons a l => rfl
end Go.Proofs.YtpgnkhaanoalhaaGreatDoor

/- Plain facts on parts: two parts put into one: they are there as they were, one deeper. No program. -/
namespace Go.Proofs.YtpgnkhaanoalhaaGreatDoor

def mixed : ByteArray := ⟨#[109, 117, 108, 116, 105, 112, 97, 114, 116, 47, 109, 105, 120, 101, 100]⟩
def wrapT (p q : PT) : PT := ⟨mixed, ⟨#[]⟩, ⟨#[]⟩, ⟨#[]⟩, 0, [], [p, q]⟩

theorem lev_up : ∀ (n : Nat) (p : PT), lev n p = true → lev (n + 1) p = true
  | 0, p, h => by rw [lev] at h; cases h
  | n + 1, p, h => by
    rw [lev_succ, List.all_eq_true] at h ⊢
    intro k hk
    exact lev_up n k (h k hk)
theorem bad_zero : ∀ (L : List (PT × Int)), (∀ x ∈ L, chkA x.1 = 0) → firstBad L = 0
  | [], _ => rfl
  | x :: L, h => by rw [firstBad, if_pos (h x (by simp))]; exact bad_zero L fun y hy => h y (by simp [hy])
theorem places_of (p : PT) (h : lev 3 p = true) (h12 : (tree 3 p).length ≤ 12) (hb : ∀ x ∈ tree 3 p, chkA x.1 = 0) : placesP p = (0, (tree 3 p).map (abs 0 (-1))) := by
  have hs := places_spec p
  rw [tree_fuel 3 p h 4 (by omega), if_pos ⟨h, h12⟩] at hs
  have hz : firstBad ((tree 3 p).map (abs 0 (-1))) = 0 := bad_zero _ fun x hx => by
    obtain ⟨y, hy, rfl⟩ := List.mem_map.1 hx
    exact hb y hy
  unfold placesP
  rw [hs]
  simp only
  rw [if_pos hz]

theorem wraps (p q : PT) (h : (placesP (wrapT p q)).1 = 0) :
    (placesP p).1 = 0 ∧ (placesP q).1 = 0 ∧ (placesP p).2.length + (placesP q).2.length + 1 ≤ 12 ∧
    (placesP (wrapT p q)).2 = (wrapT p q, -1) :: ((placesP p).2.map (fun x => (x.1, x.2 + 1)) ++ (placesP q).2.map (fun x => (x.1, if 0 ≤ x.2 then x.2 + 1 + ((placesP p).2.length : Int) else x.2 + 1))) := by
  obtain ⟨hl, h12, hL, hb⟩ := places_ok _ h
  have hl2 : lev 2 p = true ∧ lev 2 q = true := by
    rw [lev_succ, List.all_eq_true] at hl
    exact ⟨hl p (by simp [wrapT]), hl q (by simp [wrapT])⟩
  have hT : tree 3 (wrapT p q) = (wrapT p q, none) :: ((tree 3 p).map (sub 1) ++ (tree 3 q).map (sub (1 + (tree 3 p).length))) := by
    rw [tree_fuel 2 p hl2.1 3 (by omega), tree_fuel 2 q hl2.2 3 (by omega), tree_grow]
    show grow 2 [(wrapT p q, none)] [p, q] = _
    rw [grow_cons, grow_cons, grow_nil]
    simp [Nat.add_comm]
  rw [hL] at hb
  have hbe := bad_each _ hb
  rw [hT] at h12 hbe
  simp only [List.length_cons, List.length_append, List.length_map] at h12
  have sub1 : ∀ (n : Nat) (x : PT × Option Nat), (sub n x).1 = x.1 := fun n x => rfl
  have cp : ∀ x ∈ tree 3 p, chkA x.1 = 0 := fun x hx => hbe (abs 0 (-1) (sub 1 x)) (List.mem_map.2 ⟨sub 1 x, by simp only [List.mem_cons, List.mem_append, List.mem_map]; exact .inr (.inl ⟨x, hx, rfl⟩), rfl⟩)
  have cq : ∀ x ∈ tree 3 q, chkA x.1 = 0 := fun x hx => hbe (abs 0 (-1) (sub (1 + (tree 3 p).length) x)) (List.mem_map.2 ⟨sub _ x, by simp only [List.mem_cons, List.mem_append, List.mem_map]; exact .inr (.inr ⟨x, hx, rfl⟩), rfl⟩)
  have ep := places_of p (lev_up 2 p hl2.1) (by omega) cp
  have eq := places_of q (lev_up 2 q hl2.2) (by omega) cq
  refine ⟨by rw [ep], by rw [eq], by rw [ep, eq]; simp only [List.length_map]; omega, ?_⟩
  rw [hL, hT, ep, eq]
  simp only [List.map_cons, List.map_append, List.map_map, List.length_map]
  congr 1
  congr 1
  · apply List.map_congr_left
    intro x _
    obtain ⟨x, j⟩ := x
    cases j with
    | none => simp [abs, sub]
    | some j => simp [abs, sub]
  · apply List.map_congr_left
    intro x _
    obtain ⟨x, j⟩ := x
    cases j with
    | none => simp [abs, sub]
    | some j => simp [abs, sub]; omega
end Go.Proofs.YtpgnkhaanoalhaaGreatDoor

/- Plain facts: bytes out of single bits. No program. -/
namespace Go.Proofs.YtpgnkhaanoalhaaGreatDoor

def bits6 (n : Nat) : List Nat := [n / 32 % 2, n / 16 % 2, n / 8 % 2, n / 4 % 2, n / 2 % 2, n % 2]
def flat (x : List UInt8) : List Nat := x.flatMap fun c => bits6 c.toNat

theorem flat_snoc (x : List UInt8) (c : UInt8) : flat (x ++ [c]) = flat x ++ bits6 c.toNat := by simp [flat]
theorem flat_length (x : List UInt8) : (flat x).length = 6 * x.length := by
  induction x with
  | nil => rfl
  | cons c x ih => simp [flat, bits6] at ih ⊢; omega

theorem flat_le (x : List UInt8) (i : Nat) : (flat x).getD i 0 ≤ 1 := by
  by_cases h : i < (flat x).length
  · have e : (flat x).getD i 0 = (flat x)[i] := by simp [List.getD_eq_getElem?_getD, List.getElem?_eq_getElem h]
    rw [e]
    have hm : (flat x)[i] ∈ flat x := List.getElem_mem h
    generalize (flat x)[i] = b at hm
    unfold flat at hm
    rw [List.mem_flatMap] at hm
    obtain ⟨c, _, hc⟩ := hm
    simp [bits6] at hc
    omega
  · rw [List.getD_eq_getElem?_getD, List.getElem?_eq_none (by omega)]
    decide

theorem flat_at (x : List UInt8) (a t : Nat) (ht : t < 6) : (flat x).getD (6 * a + t) 0 = (x.getD a 0).toNat / 2 ^ (5 - t) % 2 := by
  induction x generalizing a with
  | nil => simp [flat]
  | cons c x ih =>
    have e : flat (c :: x) = bits6 c.toNat ++ flat x := by simp [flat]
    rw [e]
    cases a with
    | zero =>
      rcases (by omega : t = 0 ∨ t = 1 ∨ t = 2 ∨ t = 3 ∨ t = 4 ∨ t = 5) with rfl | rfl | rfl | rfl | rfl | rfl <;> simp [bits6]
    | succ a =>
      have e2 : (bits6 c.toNat ++ flat x).getD (6 * (a + 1) + t) 0 = (flat x).getD (6 * a + t) 0 := by
        rw [List.getD_eq_getElem?_getD, List.getElem?_append_right (by simp [bits6]; omega), List.getD_eq_getElem?_getD]
        congr 2
        simp [bits6]
        omega
      rw [e2, ih a]
      simp

theorem joinTo_at (x : List UInt8) (M m r : Nat) (hm : m < M) (hr : r < 3) : (joinTo x M).getD (3 * m + r) 0 = (bytes3 (quad x m)).getD r 0 := by
  induction M with
  | zero => omega
  | succ M ih =>
    rw [joinTo, List.getD_eq_getElem?_getD]
    by_cases h : m < M
    · rw [List.getElem?_append_left (by rw [joinTo_length]; omega), ← List.getD_eq_getElem?_getD]
      exact ih h
    · obtain rfl : m = M := by omega
      rw [List.getElem?_append_right (by rw [joinTo_length]; omega), joinTo_length, show 3 * m + r - 3 * m = r from by omega, ← List.getD_eq_getElem?_getD]

/-- Eight bits are a byte. -/
theorem byte_bits (x : List UInt8) (h64 : ∀ c ∈ x, c.toNat < 64) (q : Nat) (hq : q < 3 * (x.length / 4)) :
    (((((((((flat x).getD (8 * q) 0) * 2 + (flat x).getD (8 * q + 1) 0) * 2 + (flat x).getD (8 * q + 2) 0) * 2 + (flat x).getD (8 * q + 3) 0) * 2 + (flat x).getD (8 * q + 4) 0) * 2 + (flat x).getD (8 * q + 5) 0) * 2 + (flat x).getD (8 * q + 6) 0) * 2 + (flat x).getD (8 * q + 7) 0) = ((joinS x).getD q 0).toNat := by
  have hlt : ∀ j, (x.getD j 0).toNat < 64 := by
    intro j
    by_cases hj : j < x.length
    · have e : x.getD j 0 = x[j] := by simp [List.getD_eq_getElem?_getD, List.getElem?_eq_getElem hj]
      rw [e]; exact h64 _ (List.getElem_mem hj)
    · rw [List.getD_eq_getElem?_getD, List.getElem?_eq_none (by omega)]; decide
  obtain ⟨m, r, hr, rfl⟩ : ∃ m r, r < 3 ∧ q = 3 * m + r := ⟨q / 3, q % 3, by omega, by omega⟩
  have hm : m < x.length / 4 := by omega
  unfold joinS
  rw [joinTo_at x _ m r hm hr]
  have key : ∀ t, t < 8 → (flat x).getD (8 * (3 * m + r) + t) 0 = (x.getD (4 * m + (8 * r + t) / 6) 0).toNat / 2 ^ (5 - (8 * r + t) % 6) % 2 := by
    intro t _
    rw [show 8 * (3 * m + r) + t = 6 * (4 * m + (8 * r + t) / 6) + (8 * r + t) % 6 from by omega]
    exact flat_at x _ _ (by omega)
  rw [show (flat x).getD (8 * (3 * m + r)) 0 = _ from key 0 (by decide), key 1 (by decide), key 2 (by decide), key 3 (by decide), key 4 (by decide), key 5 (by decide), key 6 (by decide), key 7 (by decide)]
  have h0 := hlt (4 * m); have h1 := hlt (4 * m + 1); have h2 := hlt (4 * m + 2); have h3 := hlt (4 * m + 3)
  rcases (by omega : r = 0 ∨ r = 1 ∨ r = 2) with rfl | rfl | rfl
  all_goals
    simp only [bytes3, quad, Nat.reduceMul, Nat.reduceAdd, Nat.reduceDiv, Nat.reduceMod, Nat.reduceSub, Nat.reducePow, Nat.zero_add, Nat.mul_zero, Nat.zero_div, Nat.zero_mod, Nat.sub_zero, Nat.add_zero, Nat.sub_self, Nat.pow_zero, Nat.div_one, List.getD_cons_zero, List.getD_cons_succ, UInt8.toNat_ofNat']
    generalize (x.getD (4 * m) 0).toNat = a0 at *
    generalize (x.getD (4 * m + 1) 0).toNat = a1 at *
    generalize (x.getD (4 * m + 2) 0).toNat = a2 at *
    generalize (x.getD (4 * m + 3) 0).toNat = a3 at *
    omega

theorem sp_idx (c : UInt8) : (0 ≤ Lib.indexByte [32, 9, 13, 10] c) ↔ sp c = true := by
  simp only [Lib.indexByte, sp, Bool.or_eq_true]
  by_cases h1 : c = 32
  · subst h1; decide
  · by_cases h2 : c = 9
    · subst h2; decide
    · by_cases h3 : c = 13
      · subst h3; decide
      · by_cases h4 : c = 10
        · subst h4; decide
        · have e1 : ((32 : UInt8) == c) = false := by simp; exact fun e => h1 e.symm
          have e2 : ((9 : UInt8) == c) = false := by simp; exact fun e => h2 e.symm
          have e3 : ((13 : UInt8) == c) = false := by simp; exact fun e => h3 e.symm
          have e4 : ((10 : UInt8) == c) = false := by simp; exact fun e => h4 e.symm
          simp [e1, e2, e3, e4, h1, h2, h3, h4]
end Go.Proofs.YtpgnkhaanoalhaaGreatDoor

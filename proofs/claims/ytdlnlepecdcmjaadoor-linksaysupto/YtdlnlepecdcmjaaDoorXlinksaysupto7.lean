/- Plain facts: tags and pages: texts can be exchanged where their links are. No program. -/
import Derived.Test.YtdlnlepecdcmjaaDoorXlinksaysupto5
namespace Go.Proofs.YtdlnlepecdcmjaaDoor

theorem tag_none (low : List UInt8 → List UInt8) : ∀ (n : Nat) (seen : List (List UInt8)) (s : List UInt8), (tagF low n seen s).1 = none → (tagF low n seen s).2 = []
  | 0, _, _, _ => rfl
  | n + 1, seen, s, h => by
    unfold tagF at h ⊢
    cases hd : s.dropWhile inGap with
    | nil => rfl
    | cons c t =>
      rw [hd] at h
      simp only at h ⊢
      split at h
      · cases h
      · rename_i h62
        rw [if_neg h62]
        simp only [Option.map_eq_none_iff] at h
        exact tag_none low n _ _ h
theorem tagF_nil (low : List UInt8 → List UInt8) (n : Nat) (seen : List (List UInt8)) : tagF low n seen [] = (none, []) := by
  cases n <;> simp [tagF]
theorem tagF_gap (low : List UInt8 → List UInt8) (n : Nat) (seen : List (List UInt8)) (g : List UInt8) (c : UInt8) (t : List UInt8) (hg : ∀ x ∈ g, inGap x = true) (hc : inGap c = false) :
    tagF low (n + 1) seen (g ++ c :: t) = if c = 62 then (some [], t) else ((tagF low n (low (nameP (c :: t)) :: seen) (attrP (c :: t)).2).1.map (mineP seen (low (nameP (c :: t))) (attrP (c :: t)).1 ++ ·), (tagF low n (low (nameP (c :: t)) :: seen) (attrP (c :: t)).2).2) := by
  obtain ⟨_, e⟩ := tw_app inGap g (c :: t) hg (fun y hy => by simp at hy; subst hy; exact hc)
  rw [tagF, e]
theorem lefts_lit (t : List UInt8) (ss : List SG) (k : Nat) : leftsS ((false, t) :: ss) k = leftsS ss k := rfl
theorem lefts_val (t : List UInt8) (ss : List SG) (k : Nat) : leftsS ((true, t) :: ss) k = ((t ++ flatS ss).length + k, t) :: leftsS ss k := rfl
theorem flat_cons (b : Bool) (t : List UInt8) (ss : List SG) : flatS ((b, t) :: ss) = t ++ flatS ss := rfl

/-- A tag that has an end. -/
theorem tag_seg (low : List UInt8 → List UInt8) : ∀ (n : Nat) (seen : List (List UInt8)) (s : List UInt8) (l : List LK) (rest : List UInt8), tagF low n seen s = (some l, rest) →
    ∃ c lit ss, s = flatS ((false, c :: lit) :: ss) ++ rest ∧ l = leftsS ((false, c :: lit) :: ss) rest.length ∧
      ∀ (ss' : List SG) (rest' : List UInt8) (n' : Nat), Rep ss ss' → (flatS ((false, c :: lit) :: ss') ++ rest').length < n' → tagF low n' seen (flatS ((false, c :: lit) :: ss') ++ rest') = (some (leftsS ((false, c :: lit) :: ss') rest'.length), rest')
  | 0, _, _, _, _, h => by simp [tagF] at h
  | n + 1, seen, s, l, rest, h => by
    have es := tw_dw inGap s
    have hg := tw_all inGap s
    have hst := dw_stops inGap s
    cases hd : s.dropWhile inGap with
    | nil => rw [tagF, hd] at h; simp at h
    | cons c t =>
      rw [hd] at es hst
      have hc := hst c rfl
      generalize s.takeWhile inGap = g at es hg
      subst es
      rw [tagF_gap low n seen g c t hg hc] at h
      by_cases h62 : c = 62
      · rw [if_pos h62] at h
        subst h62
        simp only [Prod.mk.injEq, Option.some.injEq] at h
        obtain ⟨rfl, rfl⟩ := h
        have hgl : ∃ c0 lit, g ++ [62] = c0 :: lit := by cases g <;> simp
        obtain ⟨c0, lit, hcl⟩ := hgl
        refine ⟨c0, lit, [], by rw [flat_cons, ← hcl]; simp [flatS], rfl, fun ss' rest' n' hR hn => ?_⟩
        rw [hR.nil] at hn ⊢
        rw [flat_cons, ← hcl] at hn ⊢
        simp only [flatS, List.append_nil, List.append_assoc, List.cons_append, List.nil_append] at hn ⊢
        obtain ⟨m, rfl⟩ : ∃ m, n' = m + 1 := ⟨n' - 1, by omega⟩
        rw [tagF_gap low m seen g 62 rest' hg hc, if_pos rfl]
        rfl
      · rw [if_neg h62] at h
        simp only [Prod.mk.injEq, Option.map_eq_some_iff] at h
        obtain ⟨⟨l1, h1, h2⟩, h3⟩ := h
        have hrec : tagF low n (low (nameP (c :: t)) :: seen) (attrP (c :: t)).2 = (some l1, rest) := Prod.ext h1 h3
        have hne : (attrP (c :: t)).2 ≠ [] := fun e => by rw [e, tagF_nil] at hrec; simp at hrec
        obtain ⟨c1, lit1, ss1, k1, k2, k3⟩ := tag_seg low n _ _ _ _ hrec
        have hseg := attr_seg c t (attrP (c :: t)).1 (attrP (c :: t)).2 rfl hne
        generalize (attrP (c :: t)).2 = r at k1 hseg hne
        generalize (attrP (c :: t)).1 = v at h2 hseg
        generalize hnm : nameP (c :: t) = nm at h2 k3 hseg
        have hhead : ∀ (ss' : List SG) (rest' : List UInt8), (flatS ((false, c1 :: lit1) :: ss') ++ rest').head? = r.head? := by
          intro ss' rest'; rw [k1]; rfl
        rcases hseg with ⟨rfl, c2, pre, e1, e2⟩ | ⟨x, rfl, c2, pre, raw, post, e1, e2, e3⟩
        · have hc2 : c2 = c := by rw [List.cons_append] at e1; exact (List.cons.inj e1).1.symm
          subst hc2
          have hgl : ∃ c0 lit, g ++ (c2 :: pre) = c0 :: lit := by cases g <;> simp
          obtain ⟨c0, lit, hcl⟩ := hgl
          refine ⟨c0, lit, (false, c1 :: lit1) :: ss1, ?_, ?_, fun ss' rest' n' hR hn => ?_⟩
          · rw [flat_cons, ← hcl, e1, k1]; simp
          · rw [← h2, k2]; rfl
          · obtain ⟨us, rfl, hR1⟩ := hR.lit
            have eX : flatS ((false, c0 :: lit) :: (false, c1 :: lit1) :: us) ++ rest' = g ++ c2 :: (pre ++ (flatS ((false, c1 :: lit1) :: us) ++ rest')) := by
              rw [flat_cons, ← hcl]; simp
            rw [eX] at hn ⊢
            obtain ⟨m, rfl⟩ : ∃ m, n' = m + 1 := ⟨n' - 1, by omega⟩
            obtain ⟨e4, e5⟩ := e2 (flatS ((false, c1 :: lit1) :: us) ++ rest') (hhead us rest')
            rw [List.cons_append] at e4 e5
            rw [tagF_gap low m seen g c2 _ hg hc, if_neg h62, e4, e5, hnm]
            rw [k3 us rest' m hR1 (by simp only [List.length_append, List.length_cons] at hn ⊢; omega)]
            rfl
        · have hc2 : c2 = c := by rw [List.cons_append] at e1; exact (List.cons.inj e1).1.symm
          subst hc2
          by_cases hk : seen.contains (low nm) = false ∧ (low nm = hrefL ∨ low nm = srcL)
          · have hgl : ∃ c0 lit, g ++ (c2 :: pre) = c0 :: lit := by cases g <;> simp
            obtain ⟨c0, lit, hcl⟩ := hgl
            refine ⟨c0, lit, (true, raw) :: (false, post) :: (false, c1 :: lit1) :: ss1, ?_, ?_, fun ss' rest' n' hR hn => ?_⟩
            · rw [flat_cons, ← hcl, e1, k1]; simp [flatS]
            · rw [← h2, k2, e2, k1]
              simp only [mineP, lefts_lit, lefts_val]
              rw [if_pos hk]
              simp [flatS]; omega
            · obtain ⟨raw', us1, rfl, hok, hR1⟩ := hR.val
              obtain ⟨us2, rfl, hR2⟩ := hR1.lit
              obtain ⟨us, rfl, hR3⟩ := hR2.lit
              have eX : flatS ((false, c0 :: lit) :: (true, raw') :: (false, post) :: (false, c1 :: lit1) :: us) ++ rest' = g ++ c2 :: (pre ++ (raw' ++ (post ++ (flatS ((false, c1 :: lit1) :: us) ++ rest')))) := by
                rw [flat_cons, ← hcl]; simp [flatS]
              rw [eX] at hn ⊢
              obtain ⟨m, rfl⟩ : ∃ m, n' = m + 1 := ⟨n' - 1, by omega⟩
              obtain ⟨e4, e5⟩ := e3 raw' (flatS ((false, c1 :: lit1) :: us) ++ rest') hok (hhead us rest')
              rw [List.cons_append] at e4 e5
              rw [tagF_gap low m seen g c2 _ hg hc, if_neg h62, e4, e5, hnm]
              rw [k3 us rest' m hR3 (by simp only [List.length_append, List.length_cons] at hn ⊢; omega)]
              simp only [mineP, lefts_lit, lefts_val]
              rw [if_pos hk]
              simp [flatS]; omega
          · have hgl : ∃ c0 lit, g ++ ((c2 :: pre) ++ (raw ++ post)) = c0 :: lit := by cases g <;> simp
            obtain ⟨c0, lit, hcl⟩ := hgl
            refine ⟨c0, lit, (false, c1 :: lit1) :: ss1, ?_, ?_, fun ss' rest' n' hR hn => ?_⟩
            · rw [flat_cons, ← hcl, e1, k1]; simp
            · rw [← h2, k2]
              simp only [mineP, lefts_lit]
              rw [if_neg hk]
              rfl
            · obtain ⟨us, rfl, hR1⟩ := hR.lit
              have eX : flatS ((false, c0 :: lit) :: (false, c1 :: lit1) :: us) ++ rest' = g ++ c2 :: (pre ++ (raw ++ (post ++ (flatS ((false, c1 :: lit1) :: us) ++ rest')))) := by
                rw [flat_cons, ← hcl]; simp
              rw [eX] at hn ⊢
              obtain ⟨m, rfl⟩ : ∃ m, n' = m + 1 := ⟨n' - 1, by omega⟩
              obtain ⟨e4, e5⟩ := e3 raw (flatS ((false, c1 :: lit1) :: us) ++ rest') (.inl rfl) (hhead us rest')
              rw [List.cons_append] at e4 e5
              rw [tagF_gap low m seen g c2 _ hg hc, if_neg h62, e4, e5, hnm]
              rw [k3 us rest' m hR1 (by simp only [List.length_append, List.length_cons] at hn ⊢; omega)]
              simp only [mineP, lefts_lit]
              rw [if_neg hk]
              rfl

/-- Behind a mark that is found. -/
theorem behind_seg (m s : List UInt8) (hm : m ≠ []) : (Lib.index s m < 0 ∧ behindL m s = []) ∨ ∃ x, s = x ++ (m ++ behindL m s) ∧ ∀ r, behindL m (x ++ (m ++ r)) = r := by
  have hpos : 0 < m.length := List.length_pos_iff.2 hm
  rcases Lib.index_spec s m with ⟨h, _⟩ | ⟨i, h, hi, ho, hno⟩
  · left
    have : Lib.index s m < 0 := by omega
    exact ⟨this, by unfold behindL; rw [if_pos this]⟩
  · right
    have hp : m <+: s.drop i := by unfold Lib.occAt at ho; exact List.isPrefixOf_iff_prefix.1 ho
    obtain ⟨r0, hr0⟩ := hp
    have hb : behindL m s = s.drop (i + m.length) := by unfold behindL; rw [if_neg (by omega), h]; rfl
    have hdrop : s.drop (i + m.length) = r0 := by rw [← List.drop_drop, ← hr0]; simp
    have hs : s = s.take i ++ (m ++ r0) := by rw [hr0, List.take_append_drop]
    have hlen : (s.take i).length = i := by simp; omega
    refine ⟨s.take i, by rw [hb, hdrop]; exact hs, fun r => ?_⟩
    generalize s.take i = x at hs hlen
    have hidx : Lib.index (x ++ (m ++ r)) m = (i : Int) := by
      refine Lib.index_hit (fun j hj => ?_) (by simp; omega) ?_
      · have h1 := hno j hj
        unfold Lib.occAt at h1 ⊢
        rw [hs] at h1
        have e : ∀ q : List UInt8, (x ++ (m ++ q)).drop j = (x.drop j ++ m) ++ q := fun q => by rw [List.drop_append_of_le_length (by omega), List.append_assoc]
        rw [e] at h1 ⊢
        cases hh : m.isPrefixOf ((x.drop j ++ m) ++ r) with
        | false => rfl
        | true =>
          have h2 := List.isPrefixOf_iff_prefix.1 hh
          have h3 : m <+: x.drop j ++ m := List.prefix_of_prefix_length_le h2 (List.prefix_append _ _) (by simp)
          have h4 : m <+: (x.drop j ++ m) ++ r0 := h3.trans (List.prefix_append _ _)
          rw [List.isPrefixOf_iff_prefix.2 h4] at h1
          cases h1
      · unfold Lib.occAt
        rw [← hlen, List.drop_left]
        exact List.isPrefixOf_iff_prefix.2 (List.prefix_append _ _)
    unfold behindL
    rw [if_neg (by omega), hidx]
    rw [Int.toNat_natCast, ← List.drop_drop, ← hlen, List.drop_left, List.drop_left]
end Go.Proofs.YtdlnlepecdcmjaaDoor

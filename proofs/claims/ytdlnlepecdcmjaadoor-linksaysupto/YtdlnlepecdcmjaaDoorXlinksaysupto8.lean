/- Plain facts: a page: what is found behind Put. No program. -/
import Derived.Test.YtdlnlepecdcmjaaDoorXlinksaysupto7
namespace Go.Proofs.YtdlnlepecdcmjaaDoor

theorem tagB_one (c : UInt8) (t : List UInt8) : tagB [60] (60 :: c :: t) = letB c := by simp [tagB, headL, List.isPrefixOf]
theorem let_facts {c : UInt8} (h : letB c = true) : inName c = true ∧ c ≠ 33 ∧ c ≠ 63 ∧ c ≠ 47 := by
  have n : ∀ x : UInt8, letB x = false → c ≠ x := fun x hx e => by rw [e, hx] at h; cases h
  have a1 := n 32 (by decide); have a2 := n 9 (by decide); have a3 := n 13 (by decide); have a4 := n 10 (by decide); have a5 := n 12 (by decide)
  have b1 := n 62 (by decide); have b2 := n 47 (by decide)
  exact ⟨by simp [inName, spB, a1, a2, a3, a4, a5, b1, b2], n 33 (by decide), n 63 (by decide), b2⟩
/-- The first two bytes say what a piece is, but for <!--. -/
theorem piece_tag (low : List UInt8 → List UInt8) (c : UInt8) (t : List UInt8) (h : letB c = true) : pieceP low (60 :: c :: t) = ((tagP low (c :: t)).1.getD [], (tagP low (c :: t)).2) := by
  obtain ⟨_, h1, h2, _⟩ := let_facts h
  unfold pieceP
  rw [if_neg (by simp [comL, List.isPrefixOf, Ne.symm h1]), if_neg (by simp [List.isPrefixOf, Ne.symm h1, Ne.symm h2]), if_pos (by rw [tagB_one, h])]
  rfl
theorem piece_shut (low : List UInt8 → List UInt8) (c : UInt8) (t : List UInt8) (h : letB c = true) : pieceP low (60 :: 47 :: c :: t) = ([], (tagP low (c :: t)).2) := by
  unfold pieceP
  rw [if_neg (by simp [comL, List.isPrefixOf]), if_neg (by simp [List.isPrefixOf]), if_neg (by rw [tagB_one]; decide), if_pos (by simp [tagB, headL, List.isPrefixOf, h])]
  rfl
theorem piece_com (low : List UInt8 → List UInt8) (t : List UInt8) : pieceP low (60 :: 33 :: 45 :: 45 :: t) = ([], behindL comE t) := by
  unfold pieceP
  rw [if_pos (by simp [comL, List.isPrefixOf])]
  rfl
def other (s : List UInt8) : Bool := match s with
  | a :: b :: r => if a = 60 then (if b = 33 ∨ b = 63 then false else if b = 47 then !headL r else !letB b) else true
  | _ => true
theorem piece_other (low : List UInt8 → List UInt8) (c : UInt8) (t : List UInt8) (h : other (c :: t) = true) : pieceP low (c :: t) = ([], t) := by
  by_cases hc : c = 60
  · subst hc
    cases t with
    | nil => simp [pieceP, comL, List.isPrefixOf, tagB, headL]
    | cons d t =>
      simp only [other, if_true] at h
      by_cases hd0 : d = 33 ∨ d = 63
      · rw [if_pos hd0] at h; cases h
      · rw [if_neg hd0] at h
        have hd1 : d ≠ 33 := fun e => hd0 (.inl e)
        have hd2 : d ≠ 63 := fun e => hd0 (.inr e)
        unfold pieceP
        rw [if_neg (by simp [comL, List.isPrefixOf, Ne.symm hd1]), if_neg (by simp [List.isPrefixOf, Ne.symm hd1, Ne.symm hd2])]
        by_cases hd : d = 47
        · rw [if_pos hd] at h
          subst hd
          have hx : headL t = false := by simpa using h
          rw [if_neg (by rw [tagB_one]; decide), if_neg (by simp [tagB, List.isPrefixOf, hx])]
          rfl
        · rw [if_neg hd] at h
          have hl : letB d = false := by simpa using h
          rw [if_neg (by rw [tagB_one, hl]; decide), if_neg (by simp [tagB, List.isPrefixOf, Ne.symm hd])]
          rfl
  · simp [pieceP, comL, List.isPrefixOf, tagB, Ne.symm hc]
theorem other_take (c : UInt8) (t u : List UInt8) (h : u.take 2 = t.take 2) : other (c :: u) = other (c :: t) := by
  match t, u, h with
  | [], [], _ => rfl
  | [], _ :: _, h => simp at h
  | _ :: _, [], h => simp at h
  | [x], [y], h => simp at h; subst h; rfl
  | [x], y :: z :: u, h => simp at h
  | x :: z :: t, [y], h => simp at h
  | x :: z :: t, y :: z' :: u, h =>
    simp at h
    obtain ⟨rfl, rfl⟩ := h
    rfl

/-- What is known of a piece: its links can be exchanged. -/
def PieceOK (low : List UInt8 → List UInt8) (s : List UInt8) : Prop := ∃ segs, s = flatS segs ++ (pieceP low s).2 ∧ (pieceP low s).1 = leftsS segs (pieceP low s).2.length ∧
  ∀ (segs' : List SG) (rest' : List UInt8), Rep segs segs' → rest'.take 2 = (pieceP low s).2.take 2 → pieceP low (flatS segs' ++ rest') = (leftsS segs' rest'.length, rest') ∧ (flatS segs' ++ rest').take 2 = s.take 2
theorem take2_nil {r : List UInt8} (h : r.take 2 = ([] : List UInt8).take 2) : r = [] := by
  cases r with
  | nil => rfl
  | cons x r => simp at h
/-- A piece up to the end of the page. -/
theorem piece_end (low : List UInt8 → List UInt8) (s : List UInt8) (h : pieceP low s = ([], [])) : PieceOK low s := by
  unfold PieceOK
  rw [h]
  refine ⟨[(false, s)], by simp [flatS], rfl, fun segs' rest' hR hr => ?_⟩
  obtain ⟨us, rfl, hn⟩ := hR.lit
  obtain rfl := hn.nil
  obtain rfl := take2_nil hr
  simp only [flatS, List.append_nil]
  exact ⟨h, trivial⟩
theorem piece_lit (low : List UInt8 → List UInt8) (a b : UInt8) (x r : List UInt8) (h : ∀ r', pieceP low (a :: b :: (x ++ r')) = ([], r')) : PieceOK low (a :: b :: (x ++ r)) := by
  unfold PieceOK
  rw [h]
  refine ⟨[(false, a :: b :: x)], by simp [flatS], rfl, fun segs' rest' hR hr => ?_⟩
  obtain ⟨us, rfl, hn⟩ := hR.lit
  obtain rfl := hn.nil
  simp only [flatS, List.append_nil, List.cons_append]
  rw [h]
  exact ⟨rfl, by simp⟩
theorem tagP_name (low : List UInt8 → List UInt8) (nm X : List UInt8) (hn : ∀ c ∈ nm, inName c = true) (hX : Stops inName X) : tagP low (nm ++ X) = tagF low (X.length + 1) [] X := by
  unfold tagP
  rw [(tw_app inName nm X hn hX).2]
theorem piece_two (low : List UInt8 → List UInt8) (c : UInt8) (t : List UInt8) (hc : c = 33 ∨ c = 63) (hn : comL.isPrefixOf (60 :: c :: t) = false) : pieceP low (60 :: c :: t) = ([], behindL [62] (60 :: c :: t)) := by
  unfold pieceP
  rw [if_neg (by rw [hn]; decide), if_pos (by rcases hc with rfl | rfl <;> simp [List.isPrefixOf])]
theorem com_far (c : UInt8) (t r r' : List UInt8) (h : comL.isPrefixOf (60 :: c :: (t ++ 62 :: r)) = false) : comL.isPrefixOf (60 :: c :: (t ++ 62 :: r')) = false := by
  match t, h with
  | [], _ => simp [comL, List.isPrefixOf]
  | [x], _ => simp [comL, List.isPrefixOf]
  | x :: y :: t, h => simpa [comL, List.isPrefixOf] using h

theorem piece_ok (low : List UInt8 → List UInt8) (c : UInt8) (t : List UInt8) : PieceOK low (c :: t) := by
  by_cases ho : other (c :: t) = true
  · unfold PieceOK
    rw [piece_other low c t ho]
    refine ⟨[(false, [c])], rfl, rfl, fun segs' rest' hR hr => ?_⟩
    obtain ⟨us, rfl, hn⟩ := hR.lit
    obtain rfl := hn.nil
    simp only [flatS, List.append_nil, List.cons_append, List.nil_append]
    simp only at hr
    rw [piece_other low c rest' (by rw [other_take c t rest' hr]; exact ho)]
    refine ⟨rfl, ?_⟩
    have : rest'.take 1 = t.take 1 := by
      have h1 := congrArg (List.take 1) hr
      simpa [List.take_take] using h1
    simp [this]
  · have hc : c = 60 := by
      by_cases e : c = 60
      · exact e
      · exact absurd (by cases t <;> simp [other, e]) ho
    subst hc
    cases t with
    | nil => exact absurd rfl ho
    | cons d t =>
      by_cases hd : d = 33 ∨ d = 63
      · by_cases hcom : comL.isPrefixOf (60 :: d :: t) = true
        · obtain ⟨u, hu⟩ := List.isPrefixOf_iff_prefix.1 hcom
          rw [← hu]
          show PieceOK low (60 :: 33 :: 45 :: 45 :: u)
          rcases behind_seg comE u (by simp [comE]) with ⟨_, hb⟩ | ⟨x, hx, hb⟩
          · exact piece_end low _ (by rw [piece_com, hb])
          · have := piece_lit low 60 33 (45 :: 45 :: (x ++ comE)) (behindL comE u) (fun r' => by
              have e : (45 :: 45 :: (x ++ comE)) ++ r' = 45 :: 45 :: (x ++ (comE ++ r')) := by simp
              rw [e, piece_com, hb])
            have e : (45 :: 45 :: (x ++ comE)) ++ behindL comE u = 45 :: 45 :: u := by
              conv => rhs; rw [hx]
              simp
            rw [e] at this
            exact this
        · have hcom' : comL.isPrefixOf (60 :: d :: t) = false := Bool.eq_false_iff.2 hcom
          rcases behind_seg [62] (60 :: d :: t) (by simp) with ⟨_, hb⟩ | ⟨x, hx, hb⟩
          · exact piece_end low _ (by rw [piece_two low d t hd hcom', hb])
          · match x, hx, hb with
            | [], hx, _ => simp at hx
            | [a], hx, _ => simp at hx; rcases hd with h | h <;> rw [hx.2.1] at h <;> cases h
            | a :: b :: x, hx, hb =>
              have h1 : 60 = a ∧ d = b ∧ t = x ++ (62 :: behindL [62] (60 :: d :: t)) := by simpa using hx
              obtain ⟨rfl, rfl, h2⟩ := h1
              rw [h2] at hcom' ⊢
              have := piece_lit low 60 d (x ++ [62]) (behindL [62] (60 :: d :: t)) (fun r' => by
                have e : (x ++ [62]) ++ r' = x ++ 62 :: r' := by simp
                rw [e, piece_two low d _ hd (com_far d x _ r' hcom')]
                have := hb r'
                simp only [List.cons_append, List.nil_append] at this
                rw [this])
              simpa using this
      · have hd1 : d ≠ 33 := fun e => hd (.inl e)
        have hd2 : d ≠ 63 := fun e => hd (.inr e)
        by_cases hd3 : d = 47
        · subst hd3
          cases t with
          | nil => exact absurd rfl ho
          | cons x t =>
            have hl : letB x = true := by
              cases hx : letB x with
              | true => rfl
              | false => exact absurd (by simp [other, headL, hx]) ho
            have es := tw_dw inName (x :: t)
            have hn := tw_all inName (x :: t)
            have hst := dw_stops inName (x :: t)
            generalize (x :: t).takeWhile inName = nm at es hn
            generalize (x :: t).dropWhile inName = X at es hst
            have hP := piece_shut low x t hl
            rw [← es, tagP_name low nm X hn hst] at hP
            cases ho : (tagF low (X.length + 1) [] X).1 with
            | none =>
              rw [tag_none low _ _ _ ho] at hP
              exact piece_end low _ (by rw [← es]; exact hP)
            | some l =>
              obtain ⟨c1, lit, ss, k1, k2, k3⟩ := tag_seg low (X.length + 1) [] X l (tagF low (X.length + 1) [] X).2 (Prod.ext ho rfl)
              generalize (tagF low (X.length + 1) [] X).2 = rest at k1 k2 k3 hP
              have hnm : ∃ x' nm', nm = x' :: nm' ∧ letB x' = true := by
                cases nm with
                | nil =>
                  rw [List.nil_append] at es
                  have := hst x (by rw [es]; rfl)
                  rw [(let_facts hl).1] at this; cases this
                | cons y nm => rw [List.cons_append, List.cons.injEq] at es; exact ⟨y, nm, rfl, es.1 ▸ hl⟩
              obtain ⟨x', nm', rfl, hl'⟩ := hnm
              rw [← es, k1]
              have := piece_lit low 60 47 ((x' :: nm') ++ flatS ((false, c1 :: lit) :: ss)) rest (fun r' => by
                have e : ((x' :: nm') ++ flatS ((false, c1 :: lit) :: ss)) ++ r' = x' :: (nm' ++ (flatS ((false, c1 :: lit) :: ss) ++ r')) := by simp
                rw [e, piece_shut low x' _ hl', ← List.cons_append, tagP_name low (x' :: nm') _ hn (stops_head hst (by rw [k1]; rfl))]
                rw [k3 ss r' _ (Rep.refl ss) (Nat.lt_succ_self _)])
              simpa using this
        · have hl : letB d = true := by
            cases hx : letB d with
            | true => rfl
            | false => exact absurd (by simp [other, hd, hd3, hx]) ho
          have es := tw_dw inName (d :: t)
          have hn := tw_all inName (d :: t)
          have hst := dw_stops inName (d :: t)
          generalize (d :: t).takeWhile inName = nm at es hn
          generalize (d :: t).dropWhile inName = X at es hst
          have hP := piece_tag low d t hl
          rw [← es, tagP_name low nm X hn hst] at hP
          cases ho : (tagF low (X.length + 1) [] X).1 with
          | none =>
            rw [tag_none low _ _ _ ho, ho] at hP
            exact piece_end low _ (by rw [← es]; exact hP)
          | some l =>
            obtain ⟨c1, lit, ss, k1, k2, k3⟩ := tag_seg low (X.length + 1) [] X l (tagF low (X.length + 1) [] X).2 (Prod.ext ho rfl)
            rw [ho] at hP
            generalize (tagF low (X.length + 1) [] X).2 = rest at k1 k2 k3 hP
            have hnm : ∃ x' nm', nm = x' :: nm' ∧ letB x' = true := by
              cases nm with
              | nil =>
                rw [List.nil_append] at es
                have := hst d (by rw [es]; rfl)
                rw [(let_facts hl).1] at this; cases this
              | cons y nm => rw [List.cons_append, List.cons.injEq] at es; exact ⟨y, nm, rfl, es.1 ▸ hl⟩
            obtain ⟨x', nm', rfl, hl'⟩ := hnm
            rw [← es]
            unfold PieceOK
            rw [hP]
            refine ⟨(false, 60 :: x' :: nm') :: (false, c1 :: lit) :: ss, ?_, ?_, fun segs' rest' hR hr => ?_⟩
            · rw [flat_cons]; simp only; conv => lhs; rw [k1]
              simp
            · simp only [Option.getD_some]; rw [k2]; rfl
            · obtain ⟨us0, rfl, hR0⟩ := hR.lit
              obtain ⟨us, rfl, hR1⟩ := hR0.lit
              have e : flatS ((false, 60 :: x' :: nm') :: (false, c1 :: lit) :: us) ++ rest' = 60 :: x' :: (nm' ++ (flatS ((false, c1 :: lit) :: us) ++ rest')) := by rw [flat_cons]; simp
              rw [e, piece_tag low x' _ hl', ← List.cons_append, tagP_name low (x' :: nm') _ hn (stops_head hst (by rw [k1]; rfl))]
              rw [k3 us rest' _ hR1 (Nat.lt_succ_self _)]
              exact ⟨rfl, by simp⟩

theorem find_seg (low : List UInt8 → List UInt8) : ∀ (n : Nat) (acc : List LK) (s : List UInt8) (L : List LK), s.length ≤ n → findF low n acc s = some L →
    ∃ segs, s = flatS segs ∧ L = acc ++ leftsS segs 0 ∧ ∀ (segs' : List SG) (acc' : List LK) (n' : Nat), Rep segs segs' → acc'.length = acc.length → (flatS segs').length ≤ n' → findF low n' acc' (flatS segs') = some (acc' ++ leftsS segs' 0) ∧ (flatS segs').take 2 = s.take 2
  | 0, acc, s, L, hs, h => by
    obtain rfl : s = [] := List.length_eq_zero_iff.1 (by omega)
    simp only [findF, Option.some.injEq] at h
    subst h
    refine ⟨[], rfl, by simp [leftsS], fun segs' acc' n' hR _ _ => ?_⟩
    obtain rfl := hR.nil
    cases n' <;> simp [findF, flatS, leftsS]
  | n + 1, acc, [], L, hs, h => by
    simp only [findF, if_true, Option.some.injEq] at h
    subst h
    refine ⟨[], rfl, by simp [leftsS], fun segs' acc' n' hR _ _ => ?_⟩
    obtain rfl := hR.nil
    cases n' <;> simp [findF, flatS, leftsS]
  | n + 1, acc, c :: t, L, hs, h => by
    have hlen := piece_len low c t
    obtain ⟨sg1, h1, h2, h3⟩ := piece_ok low c t
    rw [findF, if_neg (by simp)] at h
    split at h
    · cases h
    · rename_i h60
      generalize (pieceP low (c :: t)).1 = l1 at h h2 h60
      generalize (pieceP low (c :: t)).2 = rest at h h1 h2 h3 hlen
      obtain ⟨sg2, k1, k2, k3⟩ := find_seg low n (acc ++ l1) rest L (by omega) h
      refine ⟨sg1 ++ sg2, by rw [flat_app, ← k1]; exact h1, ?_, fun segs' acc' n' hR ha hn => ?_⟩
      · rw [k2, h2, lefts_app, k1, List.append_assoc]; rfl
      · obtain ⟨sg1', sg2', rfl, hR1, hR2⟩ := hR.app
        rw [flat_app] at hn ⊢
        obtain ⟨_, j2⟩ := k3 sg2' (acc ++ l1) _ hR2 rfl (Nat.le_refl _)
        obtain ⟨j3, j4⟩ := h3 sg1' (flatS sg2') hR1 j2
        refine ⟨?_, j4⟩
        have hlr : ∀ (a b : List SG) (k m : Nat), Rep a b → (leftsS a k).length = (leftsS b m).length := by
          intro a
          induction a with
          | nil => intro b k m h; rw [h.nil]; rfl
          | cons x a ih =>
            intro b k m h
            cases b with
            | nil => exact h.elim
            | cons y b =>
              obtain ⟨g1, _, _, g4⟩ := h
              have := ih b k m g4
              simp only [leftsS]
              rw [← g1]
              split <;> simp [this]
        cases hf : flatS sg1' ++ flatS sg2' with
        | nil => rw [hf] at j4; cases t <;> simp at j4
        | cons y u =>
          rw [hf] at j3 hn
          have hpl := piece_len low y u
          obtain ⟨m, rfl⟩ : ∃ m, n' = m + 1 := ⟨n' - 1, by simp at hn; omega⟩
          rw [findF, if_neg (by simp), j3]
          have hl1 : (leftsS sg1' (flatS sg2').length).length = l1.length := by rw [h2]; exact (hlr _ _ _ _ hR1).symm
          rw [if_neg (by simp only [List.length_append] at h60 ⊢; omega)]
          rw [j3] at hpl
          obtain ⟨j5, _⟩ := k3 sg2' (acc' ++ leftsS sg1' (flatS sg2').length) m hR2 (by simp only [List.length_append]; omega) (by simp only [List.length_cons] at hn hpl; omega)
          simp only
          rw [j5, lefts_app, List.append_assoc]
          rfl
end Go.Proofs.YtdlnlepecdcmjaaDoor

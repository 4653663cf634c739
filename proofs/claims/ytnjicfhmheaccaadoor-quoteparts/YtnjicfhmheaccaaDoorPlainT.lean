/- Plain facts: pieces joined by a mark are split at it, and it can be left out; the lines of what is written as printable signs. No program. -/
import Derived.Test.YtnjicfhmheaccaaDoorPlainS
namespace Go.Proofs.YtnjicfhmheaccaaDoor

theorem index_sep_none (d : UInt8) (s a : List UInt8) (h : ∀ c ∈ a, c ≠ d) : Lib.index a (d :: s) = -1 := by
  induction a with
  | nil => rfl
  | cons c a ih =>
    have hc : (d == c) = false := by simp; exact fun e => h c (by simp) e.symm
    have := ih (fun e he => h e (by simp [he]))
    simp [Lib.index, List.isPrefixOf, hc, this]
theorem prefix_self (s r : List UInt8) : s.isPrefixOf (s ++ r) = true := by
  rw [List.isPrefixOf_iff_prefix]; exact List.prefix_append s r
theorem index_sep (d : UInt8) (s a r : List UInt8) (h : ∀ c ∈ a, c ≠ d) : Lib.index (a ++ ((d :: s) ++ r)) (d :: s) = (a.length : Int) := by
  induction a with
  | nil =>
    have := prefix_self (d :: s) r
    rw [List.cons_append] at this
    rw [List.nil_append, List.cons_append, Lib.index, if_pos this]
    rfl
  | cons c a ih =>
    have hc : (d == c) = false := by simp; exact fun e => h c (by simp) e.symm
    have hi := ih (fun e he => h e (by simp [he]))
    rw [List.cons_append, Lib.index]
    have hp : (d :: s).isPrefixOf (c :: (a ++ ((d :: s) ++ r))) = false := by simp [List.isPrefixOf, hc]
    rw [hp, hi]
    simp only [Bool.false_eq_true, if_false]
    rw [if_neg (by simp)]
    simp
theorem drop_sep (s a r : List UInt8) : (a ++ (s ++ r)).drop (a.length + s.length) = r := by
  rw [show a.length + s.length = (a ++ s).length from by simp, ← List.append_assoc, List.drop_left]
theorem count_sep (d : UInt8) (s a r : List UInt8) (h : ∀ c ∈ a, c ≠ d) : Lib.count (a ++ ((d :: s) ++ r)) (d :: s) = Lib.count r (d :: s) + 1 := by
  rw [Lib.count_hit (by simp) (index_sep d s a r h), drop_sep, Nat.add_comm]

/-- Pieces, with a mark between. -/
def joinG (s : List UInt8) : List UInt8 → List (List UInt8) → List UInt8
  | a, [] => a
  | a, b :: t => a ++ (s ++ joinG s b t)

theorem split_join (d : UInt8) (s : List UInt8) : ∀ (t : List (List UInt8)) (a : List UInt8), (∀ x ∈ a :: t, ∀ c ∈ x, c ≠ d) →
    Lib.splitK (d :: s) 0 (Lib.count (joinG (d :: s) a t) (d :: s)) (joinG (d :: s) a t) = a :: t := by
  intro t
  induction t with
  | nil => intro a h; rw [joinG, Lib.count_miss (index_sep_none d s a (h a (by simp)))]; rfl
  | cons b t ih =>
    intro a h
    have ha := h a (by simp)
    rw [joinG, count_sep d s a _ ha, Lib.splitK, index_sep d s a _ ha, if_neg (by simp), Int.toNat_natCast, drop_sep, ih b (fun x hx => h x (by simp at hx ⊢; right; exact hx)), Nat.add_zero, List.take_left]
theorem replace_join (d : UInt8) (s n : List UInt8) : ∀ (t : List (List UInt8)) (a : List UInt8), (∀ x ∈ a :: t, ∀ c ∈ x, c ≠ d) →
    Lib.replaceK (d :: s) n (Lib.count (joinG (d :: s) a t) (d :: s)) (joinG (d :: s) a t) = joinG n a t := by
  intro t
  induction t with
  | nil => intro a h; rw [joinG, Lib.count_miss (index_sep_none d s a (h a (by simp)))]; rfl
  | cons b t ih =>
    intro a h
    have ha := h a (by simp)
    rw [joinG, count_sep d s a _ ha, Lib.replaceK_hit _ _ _ _ a.length (index_sep d s a _ ha), drop_sep, ih b (fun x hx => h x (by simp at hx ⊢; right; exact hx)), List.take_left, joinG]
    simp
theorem joinG_nil : ∀ (t : List (List UInt8)) (a : List UInt8), joinG [] a t = (a :: t).flatten := by
  intro t
  induction t with
  | nil => intro a; simp [joinG]
  | cons b t ih => intro a; rw [joinG, ih b]; simp

/-- The groups of bytes that stand on whole lines. -/
def linesOf (gs : List (List UInt8)) : List UInt8 := gs.flatMap fun g => qs g ++ [61, 13, 10]

theorem qst_groups (L : List UInt8) : ∀ k, k ≤ L.length → ∃ gs h, qst L k = (linesOf gs, qs h) ∧ gs.flatten ++ h = L.take k ∧ (∀ g ∈ gs, 25 ≤ g.length ∧ (qs g).length ≤ 75) ∧ (qs h).length ≤ 75 := by
  intro k
  induction k with
  | zero => intro _; exact ⟨[], [], rfl, by simp, by simp, by simp [qs]⟩
  | succ k ih =>
    intro hk
    obtain ⟨gs, h, e, e2, h3, h4⟩ := ih (by omega)
    have hg : L.getD k 0 = L[k] := by simp [List.getD_eq_getElem?_getD, List.getElem?_eq_getElem (show k < L.length by omega)]
    have ht : L.take (k + 1) = L.take k ++ [L[k]] := by rw [List.take_append_getElem]
    rw [qst, e, qstep, hg, ht, ← e2]
    generalize L[k] = c
    have hq := q1_length c
    have ec : qs [c] = q1 c := by simp [qs]
    simp only
    split
    · rename_i hw
      refine ⟨gs ++ [h], [c], ?_, by simp, ?_, by rw [ec]; omega⟩
      · simp [linesOf, ec]
      · intro g hg
        rw [List.mem_append] at hg
        rcases hg with hg | hg
        · exact h3 g hg
        · simp at hg
          subst hg
          have := qs_length g
          exact ⟨by omega, h4⟩
    · rename_i hw
      refine ⟨gs, h ++ [c], ?_, by simp, h3, ?_⟩
      · rw [qs_append, ec]
      · rw [qs_append, ec, List.length_append]; omega

theorem linesOf_rend : ∀ (gs : List (List UInt8)) (h : List UInt8), ∃ k v, linesOf gs ++ qs h = rendG k v ∧ k :: v = gs ++ [h] := by
  intro gs
  induction gs with
  | nil => intro h; exact ⟨h, [], by simp [linesOf, rendG], rfl⟩
  | cons g gs ih =>
    intro h
    obtain ⟨k, v, e1, e2⟩ := ih h
    refine ⟨g, k :: v, ?_, ?_⟩
    · rw [rendG, ← e1]; simp [linesOf]
    · rw [e2]; rfl

/-- What is written, as lines. -/
theorem enc_lines (L : List UInt8) : ∃ g t, encQ L = rendG g t ∧ (g :: t).flatten = L ∧ (∀ x ∈ g :: t, (qs x).length ≤ 75) ∧ 25 * t.length ≤ L.length := by
  obtain ⟨gs, h, e, e2, h3, h4⟩ := qst_groups L L.length (Nat.le_refl _)
  obtain ⟨k, v, e3, e4⟩ := linesOf_rend gs h
  refine ⟨k, v, ?_, ?_, ?_, ?_⟩
  · unfold encQ; rw [e]; exact e3
  · rw [e4]; simpa using e2
  · intro x hx
    rw [e4, List.mem_append] at hx
    rcases hx with hx | hx
    · exact (h3 x hx).2
    · simp at hx; subst hx; exact h4
  · have hv : v.length = gs.length := by have := congrArg List.length e4; simpa using this
    have hl : gs.flatten.length ≤ L.length := by have := congrArg List.length e2; simp only [List.length_append, List.take_length] at this; omega
    rw [hv]
    refine Nat.le_trans ?_ hl
    clear e e2 e3 e4 hv hl
    induction gs with
    | nil => simp
    | cons g gs ih =>
      have := (h3 g (by simp)).1
      have := ih (fun x hx => h3 x (by simp [hx]))
      simp only [List.flatten_cons, List.length_append, List.length_cons]
      omega

theorem rend_length : ∀ (t : List (List UInt8)) (g : List UInt8), (rendG g t).length ≤ 3 * (g :: t).flatten.length + 3 * t.length := by
  intro t
  induction t with
  | nil => intro g; have := qs_length g; simp [rendG]; omega
  | cons h t ih => intro g; have := ih h; have := qs_length g; simp [rendG] at *; omega
theorem enc_length (L : List UInt8) : 25 * (encQ L).length ≤ 78 * L.length := by
  obtain ⟨g, t, e, e2, _, h4⟩ := enc_lines L
  have := rend_length t g
  rw [e2, ← e] at this
  omega

/-- WHAT IS WRITTEN IS READ. -/
theorem readQ_enc (L : List UInt8) (h : L.length ≤ 4000) : readQ (encQ L) = (L, 0) := by
  have hl := enc_length L
  obtain ⟨g, t, e, e2, _, _⟩ := enc_lines L
  rw [e] at hl ⊢
  rw [readQ_rend g t (by rw [e2]; exact h) (by omega), e2]
/-- What is written in two parts is read as both. -/
theorem readQ_two (L M : List UInt8) (h : L.length + M.length ≤ 4000) : readQ (encQ L ++ encQ M) = (L ++ M, 0) := by
  have hl := enc_length L
  have hm := enc_length M
  have hb : (encQ L ++ encQ M).length ≤ 16000 := by rw [List.length_append]; omega
  obtain ⟨g, t, e, e2, _, _⟩ := enc_lines L
  obtain ⟨g', t', e', e2', _, _⟩ := enc_lines M
  obtain ⟨k, v, e3, e4⟩ := rend_append t g g' t'
  rw [e, e'] at hb ⊢
  rw [e3] at hb ⊢
  rw [e2, e2'] at e4
  rw [readQ_rend k v (by rw [e4, List.length_append]; exact h) hb, e4]

/-- The lines as they stand there. -/
def rows : List UInt8 → List (List UInt8) → List (List UInt8)
  | g, [] => [qs g]
  | g, h :: t => (qs g ++ [61]) :: rows h t
theorem rend_rows : ∀ (t : List (List UInt8)) (g : List UInt8), ∃ a u, rows g t = a :: u ∧ rendG g t = joinG [13, 10] a u := by
  intro t
  induction t with
  | nil => intro g; exact ⟨qs g, [], rfl, rfl⟩
  | cons h t ih =>
    intro g
    obtain ⟨a, u, e1, e2⟩ := ih h
    refine ⟨qs g ++ [61], a :: u, by rw [rows, e1], ?_⟩
    rw [rendG, e2, joinG]
    simp
theorem rows_facts : ∀ (t : List (List UInt8)) (g : List UInt8), (∀ x ∈ g :: t, (qs x).length ≤ 75) → ∀ x ∈ rows g t, x.length ≤ 76 ∧ ∀ c ∈ x, 33 ≤ c.toNat ∧ c.toNat ≤ 126 := by
  intro t
  induction t with
  | nil =>
    intro g h x hx
    simp [rows] at hx
    subst hx
    exact ⟨by have := h g (by simp); omega, qs_printable g⟩
  | cons b t ih =>
    intro g h x hx
    rw [rows, List.mem_cons] at hx
    rcases hx with rfl | hx
    · refine ⟨by have := h g (by simp); simp; omega, ?_⟩
      intro c hc
      rw [List.mem_append] at hc
      rcases hc with hc | hc
      · exact qs_printable g c hc
      · simp at hc; subst hc; decide
    · exact ih b (fun y hy => h y (by simp at hy ⊢; right; exact hy)) x hx

/-- No line is too wide, and all of it is printable. -/
theorem enc_wide (L : List UInt8) : (∀ x ∈ Lib.splitK [13, 10] 0 (Lib.count (encQ L) [13, 10]) (encQ L), x.length ≤ 76) ∧
    (∀ c ∈ Lib.replaceK [13, 10] [] (Lib.count (encQ L) [13, 10]) (encQ L), 33 ≤ c.toNat ∧ c.toNat ≤ 126) := by
  obtain ⟨g, t, e, _, h3, _⟩ := enc_lines L
  obtain ⟨a, u, e1, e2⟩ := rend_rows t g
  have hf := rows_facts t g h3
  rw [e1] at hf
  have hn : ∀ x ∈ a :: u, ∀ c ∈ x, c ≠ 13 := by
    intro x hx c hc ec
    have := (hf x hx).2 c hc
    rw [ec] at this
    revert this; decide
  rw [e, e2, split_join 13 [10] u a hn, replace_join 13 [10] [] u a hn, joinG_nil]
  refine ⟨fun x hx => (hf x hx).1, fun c hc => ?_⟩
  rw [List.mem_flatten] at hc
  obtain ⟨x, hx, hc⟩ := hc
  exact (hf x hx).2 c hc

theorem qs_plain (g : List UInt8) (h : ∀ c ∈ g, plainQ c = true) : qs g = g := by
  induction g with
  | nil => rfl
  | cons c g ih => rw [qs_cons, ih (fun x hx => h x (by simp [hx])), q1, if_pos (h c (by simp))]; rfl
theorem rend_plain : ∀ (t : List (List UInt8)) (g : List UInt8), (∀ x ∈ g :: t, ∀ c ∈ x, plainQ c = true) → rendG g t = joinG [61, 13, 10] g t := by
  intro t
  induction t with
  | nil => intro g h; rw [rendG, joinG, qs_plain g (h g (by simp))]
  | cons b t ih => intro g h; rw [rendG, joinG, qs_plain g (h g (by simp)), ih b (fun x hx => h x (by simp at hx ⊢; right; exact hx))]
/-- What is plain stands there as it is. -/
theorem enc_plain (L : List UInt8) (h : ∀ c ∈ L, plainQ c = true) : Lib.replaceK [61, 13, 10] [] (Lib.count (encQ L) [61, 13, 10]) (encQ L) = L := by
  obtain ⟨g, t, e, e2, _, _⟩ := enc_lines L
  have hp : ∀ x ∈ g :: t, ∀ c ∈ x, plainQ c = true := by
    intro x hx c hc
    apply h
    rw [← e2, List.mem_flatten]
    exact ⟨x, hx, hc⟩
  have hn : ∀ x ∈ g :: t, ∀ c ∈ x, c ≠ 61 := by
    intro x hx c hc ec
    have := hp x hx c hc
    rw [ec] at this
    revert this; decide
  rw [e, rend_plain t g hp, replace_join 61 [13, 10] [] t g hn, joinG_nil, e2]
end Go.Proofs.YtnjicfhmheaccaaDoor

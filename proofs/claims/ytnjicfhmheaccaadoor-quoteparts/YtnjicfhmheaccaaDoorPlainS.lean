/- Plain facts: what is written as printable signs is read; its lines; two of them behind one another. No program. -/
import Derived.Test.YtnjicfhmheaccaaDoorPlainQ
import Derived.Test.YtnjicfhmheaccaaDoorPlainR
import Derived.Lib.Replace
namespace Go.Proofs.YtnjicfhmheaccaaDoor

theorem q1_signs : ∀ n : Fin 256, ∀ x ∈ q1 (UInt8.ofNat n.val), 33 ≤ x.toNat ∧ x.toNat ≤ 126 := by decide +kernel
theorem q1_printable (c : UInt8) : ∀ x ∈ q1 c, 33 ≤ x.toNat ∧ x.toNat ≤ 126 := by
  have hc : UInt8.ofNat c.toNat = c := by simp
  have := q1_signs ⟨c.toNat, c.toNat_lt⟩
  simp only [hc] at this
  exact this
theorem q1_hex : ∀ n : Fin 256, plainQ (UInt8.ofNat n.val) = false → isHex (upHex (n.val / 16)) = true ∧ isHex (upHex (n.val % 16)) = true ∧ UInt8.ofNat (hexv (upHex (n.val / 16)) * 16 + hexv (upHex (n.val % 16))) = UInt8.ofNat n.val := by decide +kernel
theorem q1_end : ∀ n : Fin 256, (q1 (UInt8.ofNat n.val)).getLast? ≠ some 61 := by decide +kernel

theorem decQ_q1 (c : UInt8) (r : List UInt8) : decQ (q1 c ++ r) = (decQ r).map (c :: ·) := by
  have hc : UInt8.ofNat c.toNat = c := by simp
  cases h : plainQ c with
  | true =>
    have hne : c ≠ 61 := by
      rintro rfl
      revert h
      decide
    rw [q1, if_pos h]
    exact decQ_plain c r hne
  | false =>
    have := q1_hex ⟨c.toNat, c.toNat_lt⟩
    simp only [hc] at this
    obtain ⟨h1, h2, h3⟩ := this h
    rw [q1, if_neg (by simp [h])]
    show decQ (61 :: upHex (c.toNat / 16) :: upHex (c.toNat % 16) :: r) = _
    rw [decQ_hex _ _ _ (by simp [h1, h2]), h3]

def qs (g : List UInt8) : List UInt8 := g.flatMap q1
theorem qs_cons (c : UInt8) (g : List UInt8) : qs (c :: g) = q1 c ++ qs g := by simp [qs]
theorem qs_append (a b : List UInt8) : qs (a ++ b) = qs a ++ qs b := by simp [qs]
theorem decQ_qs (g : List UInt8) : decQ (qs g) = some g := by
  induction g with
  | nil => rfl
  | cons c g ih => rw [qs_cons, decQ_q1, ih]; rfl
theorem qs_printable (g : List UInt8) : ∀ x ∈ qs g, 33 ≤ x.toNat ∧ x.toNat ≤ 126 := by
  intro x hx
  unfold qs at hx
  rw [List.mem_flatMap] at hx
  obtain ⟨c, _, hc⟩ := hx
  exact q1_printable c x hc
theorem qs_length (g : List UInt8) : g.length ≤ (qs g).length ∧ (qs g).length ≤ 3 * g.length := by
  induction g with
  | nil => simp [qs]
  | cons c g ih => have := q1_length c; rw [qs_cons]; simp; omega
theorem qs_end (g : List UInt8) : endsQ (qs g) 61 = false := by
  rcases List.eq_nil_or_concat g with rfl | ⟨x, c, rfl⟩
  · rfl
  · rw [List.concat_eq_append, qs_append]
    have e : qs [c] = q1 c := by simp [qs]
    rw [e]
    unfold endsQ
    have hc : UInt8.ofNat c.toNat = c := by simp
    have h := q1_end ⟨c.toNat, c.toNat_lt⟩
    simp only [hc] at h
    have hl := q1_length c
    rw [List.getLast?_append]
    cases hq : (q1 c).getLast? with
    | none => rw [List.getLast?_eq_none_iff] at hq; rw [hq] at hl; simp at hl
    | some y => rw [hq] at h; simpa using h
theorem strip_printable (x : List UInt8) (h : ∀ c ∈ x, 33 ≤ c.toNat ∧ c.toNat ≤ 126) : stripR x = x := by
  rcases List.eq_nil_or_concat x with rfl | ⟨y, c, rfl⟩
  · rfl
  · rw [List.concat_eq_append] at *
    apply stripR_other
    have := h c (by simp)
    unfold blankQ
    have e1 : (c == 32) = false := by rw [beq_eq_false_iff_ne]; rintro rfl; revert this; decide
    have e2 : (c == 9) = false := by rw [beq_eq_false_iff_ne]; rintro rfl; revert this; decide
    have e3 : (c == 13) = false := by rw [beq_eq_false_iff_ne]; rintro rfl; revert this; decide
    simp [e1, e2, e3]

/-- A line that goes on. -/
theorem lineQ_on (g : List UInt8) : lineQ (qs g ++ [61, 13, 10]) = (qs g, false) := by
  have e1 : endsQ (qs g ++ [61, 13, 10]) 10 = true := by
    rw [show qs g ++ [61, 13, 10] = (qs g ++ [61, 13]) ++ [10] from by simp, endsQ_snoc]; rfl
  have e2 : (qs g ++ [61, 13, 10]).dropLast = qs g ++ [61, 13] := by
    rw [show qs g ++ [61, 13, 10] = (qs g ++ [61, 13]) ++ [10] from by simp, List.dropLast_concat]
  have e3 : stripR (qs g ++ [61, 13]) = qs g ++ [61] := by
    rw [show qs g ++ [61, 13] = (qs g ++ [61]) ++ [13] from by simp, stripR_blank _ _ (by decide), stripR_other _ _ (by decide)]
  unfold lineQ
  rw [if_pos e1, e2, e3, endsQ_snoc, if_pos (by decide), List.dropLast_concat]
/-- The last line. -/
theorem lineQ_last (g : List UInt8) : lineQ (qs g) = (qs g, false) := by
  have hp := qs_printable g
  have e1 : endsQ (qs g) 10 = false := by
    unfold endsQ
    rw [beq_eq_false_iff_ne]
    intro e
    have := hp 10 (List.mem_of_getLast? e)
    revert this; decide
  unfold lineQ
  rw [e1]
  simp only [Bool.false_eq_true, if_false]
  rw [strip_printable _ hp, qs_end]
  rfl

/-- Groups of bytes, a line each. -/
def rendG : List UInt8 → List (List UInt8) → List UInt8
  | g, [] => qs g
  | g, h :: t => qs g ++ ([61, 13, 10] ++ rendG h t)
def pieces : List UInt8 → List (List UInt8) → List (List UInt8)
  | g, [] => [qs g]
  | g, h :: t => (qs g ++ [61, 13, 10]) :: pieces h t

theorem index_none1 (d : UInt8) (a : List UInt8) (h : ∀ c ∈ a, c ≠ d) : Lib.index a [d] = -1 := by
  induction a with
  | nil => rfl
  | cons c a ih =>
    have hc : (d == c) = false := by simp; exact fun e => h c (by simp) e.symm
    have := ih (fun e he => h e (by simp [he]))
    simp [Lib.index, List.isPrefixOf, hc] at this ⊢
    intro hh
    exact absurd this hh
theorem index_at1 (d : UInt8) (a r : List UInt8) (h : ∀ c ∈ a, c ≠ d) : Lib.index (a ++ ([d] ++ r)) [d] = (a.length : Int) := by
  induction a with
  | nil => simp [Lib.index, List.isPrefixOf]
  | cons c a ih =>
    have hc : (d == c) = false := by simp; exact fun e => h c (by simp) e.symm
    have hi := ih (fun e he => h e (by simp [he]))
    rw [List.cons_append, Lib.index]
    have hp : [d].isPrefixOf (c :: (a ++ ([d] ++ r))) = false := by simp [List.isPrefixOf, hc]
    rw [hp, hi]
    simp only [Bool.false_eq_true, if_false]
    rw [if_neg (by simp)]
    simp

theorem drop_one (d : UInt8) (a r : List UInt8) : (a ++ ([d] ++ r)).drop (a.length + 1) = r := by
  rw [show a.length + 1 = (a ++ [d]).length from by simp, ← List.append_assoc, List.drop_left]
theorem take_one (d : UInt8) (a r : List UInt8) : (a ++ ([d] ++ r)).take (a.length + 1) = a ++ [d] := by
  rw [show a.length + 1 = (a ++ [d]).length from by simp, ← List.append_assoc, List.take_left]
theorem not10 (g : List UInt8) : ∀ c ∈ qs g, c ≠ 10 := fun c hc e => by
  have := qs_printable g c hc
  rw [e] at this
  revert this; decide
theorem not10' (g : List UInt8) : ∀ c ∈ qs g ++ [61, 13], c ≠ 10 := by
  intro c hc
  rw [List.mem_append] at hc
  rcases hc with hc | hc
  · exact not10 g c hc
  · simp at hc; rcases hc with rfl | rfl <;> decide

theorem split_rend : ∀ (t : List (List UInt8)) (g : List UInt8), Lib.splitK [10] 1 (Lib.count (rendG g t) [10]) (rendG g t) = pieces g t := by
  intro t
  induction t with
  | nil =>
    intro g
    rw [rendG, Lib.count_miss (index_none1 10 _ (not10 g))]
    rfl
  | cons h t ih =>
    intro g
    have e : rendG g (h :: t) = (qs g ++ [61, 13]) ++ ([10] ++ rendG h t) := by rw [rendG]; simp
    have hi := index_at1 10 (qs g ++ [61, 13]) (rendG h t) (not10' g)
    have hd := drop_one 10 (qs g ++ [61, 13]) (rendG h t)
    have ht := take_one 10 (qs g ++ [61, 13]) (rendG h t)
    have ep : pieces g (h :: t) = ((qs g ++ [61, 13]) ++ [10]) :: pieces h t := by rw [pieces]; simp
    rw [e, ep]
    generalize qs g ++ [61, 13] = a at *
    rw [Lib.count_hit (by simp) hi]
    rw [show a.length + [(10 : UInt8)].length = a.length + 1 from rfl, hd, Nat.add_comm 1, Lib.splitK, hi, if_neg (by simp), Int.toNat_natCast, ht]
    rw [show a.length + [(10 : UInt8)].length = a.length + 1 from rfl, hd, ih h]

theorem lines_rend : ∀ (t : List (List UInt8)) (g o : List UInt8), (o ++ (g :: t).flatten).length ≤ 4000 → linesQ (pieces g t) o = (o ++ (g :: t).flatten, 0) := by
  intro t
  induction t with
  | nil =>
    intro g o h
    simp only [List.flatten_cons, List.flatten_nil, List.append_nil] at h ⊢
    rw [pieces, linesQ, lineQ_last]
    simp only [decQ_qs, Bool.false_eq_true, if_false, List.append_nil]
    rw [if_neg (by omega)]
    rfl
  | cons x t ih =>
    intro g o h
    simp only [List.flatten_cons] at h ⊢
    rw [pieces, linesQ, lineQ_on]
    simp only [decQ_qs, Bool.false_eq_true, if_false, List.append_nil]
    have hl : (o ++ g).length ≤ 4000 := by simp only [List.length_append] at h ⊢; omega
    rw [if_neg (by omega), ih x (o ++ g) (by simpa using h)]
    simp

/-- WHAT IS WRITTEN SO IS READ. -/
theorem readQ_rend (g : List UInt8) (t : List (List UInt8)) (h : ((g :: t).flatten).length ≤ 4000) (hl : (rendG g t).length ≤ 16000) : readQ (rendG g t) = ((g :: t).flatten, 0) := by
  unfold readQ
  rw [if_neg (by omega), split_rend, lines_rend t g [] (by simpa using h)]
  simp

/-- Two of them behind one another. -/
theorem rend_append : ∀ (t : List (List UInt8)) (g : List UInt8) (h : List UInt8) (u : List (List UInt8)), ∃ k v, rendG g t ++ rendG h u = rendG k v ∧ (k :: v).flatten = (g :: t).flatten ++ (h :: u).flatten := by
  intro t
  induction t with
  | nil =>
    intro g h u
    cases u with
    | nil => exact ⟨g ++ h, [], by rw [rendG, rendG, rendG, qs_append], by simp⟩
    | cons x u => exact ⟨g ++ h, x :: u, by rw [rendG, rendG, rendG, qs_append]; simp, by simp⟩
  | cons x t ih =>
    intro g h u
    obtain ⟨k, v, e1, e2⟩ := ih x h u
    refine ⟨g, k :: v, ?_, ?_⟩
    · rw [rendG, rendG, ← e1]; simp
    · rw [List.flatten_cons, e2]; simp
end Go.Proofs.YtnjicfhmheaccaaDoor

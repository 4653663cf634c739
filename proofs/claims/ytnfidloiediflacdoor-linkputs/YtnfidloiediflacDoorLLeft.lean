/- Plain facts: behind each link of a page something is left. No program. -/
import Derived.Test.YtnfidloiediflacDoorLSeg3
namespace Go.Proofs.YtnfidloiediflacDoor

theorem val_pos (s : List UInt8) (h : (valP s).2.2 ≠ []) : 1 ≤ (valP s).1.length := by
  have h0 : 0 < (valP s).2.2.length := List.length_pos_iff.2 h
  have h1 : (valP s).2.2.length ≤ (valP s).1.length := by
    cases s with
    | nil => exact Nat.le_refl _
    | cons c t =>
      simp only [valP]
      split
      · have := drop_dropWhile (notQ c) t; simp only [List.length_drop]; omega
      · exact drop_dropWhile inBare (c :: t)
  omega
theorem attr_pos (s : List UInt8) (x : LK) (h : (attrP s).1 = some x) (hr : (attrP s).2 ≠ []) : 1 ≤ x.1 := by
  unfold attrP at h hr
  cases hd : (((s.drop 1).dropWhile inAttr).dropWhile spB) with
  | nil => rw [hd] at h; cases h
  | cons c t =>
    rw [hd] at h hr
    simp only [behP] at h hr
    split at h
    · rename_i h61
      rw [if_pos h61] at hr
      cases h
      exact val_pos _ hr
    · cases h
theorem tag_left (low : List UInt8 → List UInt8) : ∀ (n : Nat) (seen : List (List UInt8)) (s : List UInt8) (l : List LK), (tagF low n seen s).1 = some l → ∀ x ∈ l, 1 ≤ x.1
  | 0, _, _, _, h => by cases h
  | n + 1, seen, s, l, h => by
    unfold tagF at h
    cases hd : s.dropWhile inGap with
    | nil => rw [hd] at h; cases h
    | cons c t =>
      rw [hd] at h
      simp only at h
      split at h
      · cases h; intro x hx; cases hx
      · simp only [Option.map_eq_some_iff] at h
        obtain ⟨l1, h1, rfl⟩ := h
        have hr : (attrP (c :: t)).2 ≠ [] := fun e => by rw [e, tagF_nil] at h1; cases h1
        intro x hx
        rcases List.mem_append.1 hx with hx | hx
        · unfold mineP at hx
          split at hx
          · cases hx
          · rename_i y hy
            split at hx
            · simp at hx
              subst hx
              exact attr_pos _ _ hy hr
            · cases hx
        · exact tag_left low n _ _ l1 h1 x hx
theorem piece_left (low : List UInt8 → List UInt8) (s : List UInt8) : ∀ x ∈ (pieceP low s).1, 1 ≤ x.1 := by
  unfold pieceP
  split
  · intro x hx; cases hx
  · split
    · intro x hx; cases hx
    · split
      · simp only [tagP]
        cases h : (tagF low ((List.dropWhile inName (List.drop 1 s)).length + 1) [] (List.dropWhile inName (List.drop 1 s))).1 with
        | none => intro x hx; cases hx
        | some l => exact tag_left low _ _ _ l h
      · split <;> (intro x hx; cases hx)
theorem find_left (low : List UInt8 → List UInt8) : ∀ (n : Nat) (acc : List LK) (s : List UInt8) (L : List LK), findF low n acc s = some L → (∀ x ∈ acc, 1 ≤ x.1) → ∀ x ∈ L, 1 ≤ x.1
  | 0, acc, s, L, h, ha => by simp only [findF, Option.some.injEq] at h; rw [← h]; exact ha
  | n + 1, acc, s, L, h, ha => by
    rw [findF] at h
    split at h
    · simp only [Option.some.injEq] at h; rw [← h]; exact ha
    · split at h
      · cases h
      · refine find_left low n _ _ L h (fun x hx => ?_)
        rcases List.mem_append.1 hx with hx | hx
        · exact ha x hx
        · exact piece_left low s x hx
theorem findP_left (low : List UInt8 → List UInt8) (b : List UInt8) (l : List LK) (h : findP low b = some l) : ∀ x ∈ l, 1 ≤ x.1 := by
  unfold findP at h
  split at h
  · cases h
  · exact find_left low _ _ _ l h (fun x hx => by cases hx)
end Go.Proofs.YtnfidloiediflacDoor

/- The reference's URLRead is parseU: plain facts; nothing that was there is changed. -/
import Derived.Test.YtnfidloiediflabDoorRRead
namespace Go.Proofs.YtnfidloiediflabDoor
open Go.RowKit

theorem cutAt_of (d : UInt8) (l : List UInt8) : CutAt1 (bar l) (bar (cutO d l).1) (bar (cutO d l).2.1) (cutO d l).2.2 (whereB d l) := by
  unfold cutO whereB
  cases h : cutB d l with
  | none => exact Or.inl ⟨rfl, rfl, rfl, rfl⟩
  | some x =>
    obtain ⟨e, _⟩ := cutB_some d l x.1 x.2 h
    refine Or.inr ⟨rfl, x.1.length, rfl, ?_, ?_, ?_⟩
    · rw [bar_size, e]; simp
    · rw [ext_take, e]; simp
    · rw [ext_drop, e]; simp
theorem where_end : ∀ l : List UInt8, whereB 47 (l ++ [47]) = ((cutH l).1.length : Int)
  | [] => rfl
  | c :: l => by
    have ih := where_end l
    unfold whereB cutH at ih ⊢
    rw [List.cons_append, cutB, cutB]
    by_cases hc : c = 47
    · rw [if_pos hc, if_pos hc]
      first | done | rfl
    · rw [if_neg hc, if_neg hc]
      cases h1 : cutB 47 (l ++ [47]) with
      | none => rw [h1] at ih; cases h2 : cutB 47 l <;> rw [h2] at ih <;> simp at ih <;> omega
      | some x =>
        rw [h1] at ih
        cases h2 : cutB 47 l with
        | none => rw [h2] at ih; simp at ih ⊢; omega
        | some y => rw [h2] at ih; simp at ih ⊢; omega
theorem cutC_of : ∀ l : List UInt8, match cutC l with
    | none => whereB 58 (cutH l).1 = -1
    | some x => whereB 58 (cutH l).1 = (x.1.length : Int) ∧ l = x.1 ++ 58 :: x.2
  | [] => rfl
  | c :: l => by
    have ih := cutC_of l
    have hH : (cutH (c :: l)).1 = if c = 47 then [] else c :: (cutH l).1 := by
      unfold cutH
      rw [cutB]
      by_cases hc : c = 47
      · rw [if_pos hc, if_pos hc]
      · rw [if_neg hc, if_neg hc]
        cases cutB 47 l <;> rfl
    rw [hH, cutC]
    by_cases h1 : c = 58
    · subst h1
      exact ⟨rfl, rfl⟩
    · rw [if_neg h1]
      by_cases h2 : c = 47
      · rw [if_pos h2, if_pos h2]
        first | done | rfl
      · rw [if_neg h2, if_neg h2]
        unfold whereB at ih ⊢
        rw [cutB, if_neg h1]
        cases h3 : cutC l with
        | none =>
          rw [h3] at ih
          cases h4 : cutB 58 (cutH l).1 with
          | none => rfl
          | some y => rw [h4] at ih; simp at ih; try omega
        | some x =>
          rw [h3] at ih
          obtain ⟨i1, i2⟩ := ih
          cases h4 : cutB 58 (cutH l).1 with
          | none => rw [h4] at i1; simp at i1; try omega
          | some y =>
            rw [h4] at i1
            simp only [Option.map_some, List.length_cons, List.cons_append] at i1 ⊢
            exact ⟨by omega, by rw [← i2]⟩
theorem preSS_ext (l : List UInt8) (h : 2 ≤ l.length) : (((bar l).extract 0 2).toList == [47, 47]) = preSS l := by
  rw [ext_take, ByteArray.toList_eq, bar_l]
  rcases l with _ | ⟨a, _ | ⟨b, l⟩⟩
  · simp at h
  · simp at h
  · simp [preSS]
theorem preSS_short (l : List UInt8) (h : preSS l = true) : 2 ≤ l.length := by
  rcases l with _ | ⟨a, _ | ⟨b, l⟩⟩
  · cases h
  · cases h
  · simp
theorem hostAt_of (l : List UInt8) : HostAt (bar l) (bar (if preSS l then (cutH (l.drop 2)).2 else l)) (bar (cutH (l.drop 2)).1) (bar (if preSS l then smallU (cutH (l.drop 2)).1 else [])) (preSS l) (cutH (l.drop 2)).1.length := by
  cases h : preSS l with
  | false =>
    refine Or.inl ⟨rfl, rfl, rfl, ?_⟩
    rw [bar_size]
    by_cases h2 : 2 ≤ l.length
    · exact Or.inr ⟨h2, by rw [preSS_ext l h2, h]⟩
    · exact Or.inl (by omega)
  | true =>
    have h2 := preSS_short l h
    have ha := cutH_app (l.drop 2)
    have hlen : (cutH (l.drop 2)).1.length ≤ (l.drop 2).length := by
      have := congrArg List.length ha
      rw [List.length_append] at this
      omega
    rw [List.length_drop] at hlen
    refine Or.inr ⟨rfl, by rw [bar_size]; exact h2, by rw [preSS_ext l h2, h], by rw [bar_size]; omega, ?_, ?_⟩
    · have : (bar l).extract 2 (2 + (cutH (l.drop 2)).1.length) = bar ((l.drop 2).take (cutH (l.drop 2)).1.length) := by
        apply ba_inj
        rw [bar_l]
        simp [bar, List.extract_eq_take_drop]
      rw [this]
      congr 1
      have := congrArg (List.take (cutH (l.drop 2)).1.length) ha
      rw [← this]; simp
    · rw [ext_drop, ← List.drop_drop]
      congr 1
      have := congrArg (List.drop (cutH (l.drop 2)).1.length) ha
      rw [← this]; simp
end Go.Proofs.YtnfidloiediflabDoor

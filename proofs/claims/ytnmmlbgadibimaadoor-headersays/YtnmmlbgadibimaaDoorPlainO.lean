/- Plain facts on lists of bytes: a value taken apart by places: blanks are passed by. No program. -/
import Derived.Test.YtnmmlbgadibimaaDoorPlainN
namespace Go.Proofs.YtnmmlbgadibimaaDoor

theorem cutB_app (d : UInt8) : ∀ (b x : List UInt8), (∀ c ∈ b, c ≠ d) → cutB d (b ++ x) = (cutB d x).map fun y => (b ++ y.1, y.2)
  | [], x, _ => by rw [List.nil_append]; cases cutB d x <;> rfl
  | c :: b, x, h => by
    rw [List.cons_append, cutB, if_neg (h c (by simp)), cutB_app d b x (fun y hy => h y (by simp [hy]))]
    cases cutB d x <;> rfl
theorem dropWhile_nil (p : UInt8 → Bool) : ∀ l : List UInt8, l.dropWhile p = [] → ∀ z ∈ l, p z = true
  | [], _, z, hz => by cases hz
  | a :: l, h, z, hz => by
    rw [List.dropWhile_cons] at h
    by_cases ha : p a = true
    · rw [if_pos ha] at h
      rcases List.mem_cons.1 hz with rfl | hz
      · exact ha
      · exact dropWhile_nil p l h z hz
    · rw [if_neg ha] at h; cases h
theorem sp_split (R : List UInt8) : ∃ b, R = b ++ R.dropWhile isSp ∧ ∀ c ∈ b, isSp c = true := by
  refine ⟨R.takeWhile isSp, (List.takeWhile_append_dropWhile).symm, fun c hc => ?_⟩
  exact List.all_eq_true.1 List.all_takeWhile c hc
theorem sp_ne {c d : UInt8} (h : isSp c = true) (hd : isSp d = false) : c ≠ d := fun e => by subst e; rw [h] at hd; cases hd

theorem trim_sp (b x : List UInt8) (hb : ∀ c ∈ b, isSp c = true) : trimBy isSp (b ++ x) = trimBy isSp x := by
  have hrev : ∀ c ∈ b.reverse, isSp c = true := fun c hc => hb c (by simpa using hc)
  unfold trimBy dropEnd
  rw [List.reverse_append, List.dropWhile_append]
  by_cases h : (x.reverse.dropWhile isSp).isEmpty = true
  · rw [if_pos h, dropWhile_all isSp _ hrev]
    have h2 : x.reverse.dropWhile isSp = [] := by simpa using h
    rw [h2]
  · rw [if_neg h, List.reverse_append, List.reverse_reverse, List.dropWhile_append, if_pos]
    rw [dropWhile_all isSp b hb]; rfl

/-- The name: blanks ahead of it may be passed by. -/
theorem name_none (R : List UInt8) : (cutB 61 (R.dropWhile isSp) = none) → (cutP 61 R).2.2 = false := by
  intro h
  obtain ⟨b, e, hb⟩ := sp_split R
  have : cutB 61 R = none := by
    conv => lhs; rw [e]
    rw [cutB_app 61 b _ (fun c hc => sp_ne (hb c hc) rfl), h]; rfl
  rw [cutP_none this]
theorem name_some (R a r : List UInt8) (h : cutB 61 (R.dropWhile isSp) = some (a, r)) : (cutP 61 R).2.2 = true ∧ nameS R = trimBy isSp a ∧ (cutP 61 R).2.1 = r := by
  obtain ⟨b, e, hb⟩ := sp_split R
  have : cutB 61 R = some (b ++ a, r) := by
    conv => lhs; rw [e]
    rw [cutB_app 61 b _ (fun c hc => sp_ne (hb c hc) rfl), h]; rfl
  rw [nameS, cutP_some this]
  exact ⟨rfl, trim_sp b a hb, rfl⟩

def tailOf (r : List UInt8) (m : Bool) : List UInt8 := if m = true then 59 :: r else []
/-- What stands behind the quotes. -/
theorem gap_end (u : List UInt8) (h : u.dropWhile isSp = []) : trimBy isSp (cutP 59 u).1 = [] ∧ tailOf (cutP 59 u).2.1 (cutP 59 u).2.2 = [] := by
  obtain ⟨b, e, hb⟩ := sp_split u
  rw [h, List.append_nil] at e
  have hc : cutB 59 u = none := cutB_off 59 u (fun c hc => sp_ne (hb c (e ▸ hc)) rfl)
  rw [cutP_none hc]
  refine ⟨?_, rfl⟩
  show trimBy isSp u = []
  rw [e, trimBy, dropEnd_all isSp b hb]; rfl
theorem gap_semi (u r : List UInt8) (h : u.dropWhile isSp = 59 :: r) : trimBy isSp (cutP 59 u).1 = [] ∧ tailOf (cutP 59 u).2.1 (cutP 59 u).2.2 = 59 :: r := by
  obtain ⟨b, e, hb⟩ := sp_split u
  rw [h] at e
  have hc : cutB 59 u = some (b, r) := by rw [e]; exact cutB_at 59 b r (fun c hc => sp_ne (hb c hc) rfl)
  rw [cutP_some hc]
  refine ⟨?_, rfl⟩
  show trimBy isSp b = []
  rw [trimBy, dropEnd_all isSp b hb]; rfl
theorem gap_bad (u r : List UInt8) (c : UInt8) (h : u.dropWhile isSp = c :: r) (hc : c ≠ 59) : (trimBy isSp (cutP 59 u).1).isEmpty = false := by
  obtain ⟨b, e, hb⟩ := sp_split u
  have hcs : isSp c = false := by
    have := List.head?_dropWhile_not isSp u
    rw [h] at this
    simpa using this
  rw [h] at e
  have hm : c ∈ (cutP 59 u).1 ∧ ∀ x, (cutP 59 u).1 = x → trimBy isSp x = trimBy isSp (cutP 59 (c :: r)).1 := by
    have e2 : cutP 59 u = (b ++ (cutP 59 (c :: r)).1, (cutP 59 (c :: r)).2.1, (cutP 59 (c :: r)).2.2) := by
      unfold cutP
      rw [e, cutB_app 59 b _ (fun x hx => sp_ne (hb x hx) rfl)]
      cases cutB 59 (c :: r) <;> rfl
    have e3 : c ∈ (cutP 59 (c :: r)).1 := by
      unfold cutP
      rw [cutB, if_neg hc]
      cases cutB 59 r <;> simp
    rw [e2]
    exact ⟨by simp [e3], fun x hx => by rw [← hx]; exact trim_sp b _ hb⟩
  rw [← Bool.not_eq_true]
  intro he
  have h0 : trimBy isSp (cutP 59 u).1 = [] := by simpa using he
  have hcm := hm.1
  -- what is left of a text that holds something else than blanks is not nothing
  have : ∀ y : List UInt8, c ∈ y → trimBy isSp y ≠ [] := by
    intro y hy ht
    unfold trimBy at ht
    have h1 : ∀ z ∈ dropEnd isSp y, isSp z = true := by
      intro z hz
      exact dropWhile_nil isSp _ ht z hz
    have h2 : c ∈ dropEnd isSp y := by
      unfold dropEnd
      rw [List.mem_reverse]
      have hy' : c ∈ y.reverse.takeWhile isSp ++ y.reverse.dropWhile isSp := by rw [List.takeWhile_append_dropWhile]; simpa using hy
      rcases List.mem_append.1 hy' with h | h
      · have := List.all_eq_true.1 (List.all_takeWhile (p := isSp) (l := y.reverse)) c h
        rw [hcs] at this; cases this
      · exact h
    rw [h1 c h2] at hcs; cases hcs
  exact this _ hcm h0

/-- The place of the next ;, or the end. -/
theorem semi_at (Q : List UInt8) : cutB 59 (Q ++ [59]) = some ((cutP 59 Q).1, (cutP 59 Q).2.1 ++ (if (cutP 59 Q).2.2 = true then [59] else [])) ∧ Q = (cutP 59 Q).1 ++ tailOf (cutP 59 Q).2.1 (cutP 59 Q).2.2 := by
  cases h : cutB 59 Q with
  | none =>
    rw [cutP_none h]
    have hq : ∀ c ∈ Q, c ≠ 59 := by
      intro c hc e
      subst e
      obtain ⟨s, t, rfl⟩ := List.append_of_mem hc
      have : ∀ (s t : List UInt8), cutB 59 (s ++ 59 :: t) ≠ none := by
        intro s
        induction s with
        | nil => intro t; simp [cutB]
        | cons a s ih =>
          intro t
          rw [List.cons_append, cutB]
          split
          · simp
          · intro e
            cases hh : cutB 59 (s ++ 59 :: t) with
            | none => exact ih t hh
            | some y => rw [hh] at e; cases e
      exact this s t h
    refine ⟨?_, by simp [tailOf]⟩
    rw [cutB_at 59 Q [] hq]; rfl
  | some x =>
    obtain ⟨a, r⟩ := x
    rw [cutP_some h]
    obtain ⟨e, ha⟩ := cutB_some 59 Q a r h
    refine ⟨?_, by simp [tailOf, e]⟩
    rw [e, List.append_assoc, List.cons_append, cutB_at 59 a _ ha]; rfl
end Go.Proofs.YtnmmlbgadibimaaDoor

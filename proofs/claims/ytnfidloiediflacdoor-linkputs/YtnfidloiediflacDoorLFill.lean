/- Plain facts: texts in the places of a page's links are found there. No program. -/
import Derived.Test.YtnfidloiediflacDoorLSeg3
namespace Go.Proofs.YtnfidloiediflacDoor

def repl : List SG → List (List UInt8) → List SG
  | [], _ => []
  | (false, x) :: ss, ts => (false, x) :: repl ss ts
  | (true, r) :: ss, t :: ts => (true, if t = [] then r else t) :: repl ss ts
  | (true, r) :: ss, [] => (true, r) :: repl ss []
theorem fill_repl : ∀ (ss : List SG) (ts : List (List UInt8)) (pre : List UInt8), ts.length = (leftsS ss 0).length → fillP (leftsS ss 0) ts (pre ++ flatS ss) = pre ++ flatS (repl ss ts)
  | [], ts, pre, h => by
    obtain rfl : ts = [] := List.length_eq_zero_iff.1 h
    rfl
  | (false, x) :: ss, ts, pre, h => by
    rw [lefts_lit] at h ⊢
    have := fill_repl ss ts (pre ++ x) h
    rw [flat_cons, ← List.append_assoc, this, repl, flat_cons, List.append_assoc]
  | (true, r) :: ss, [], pre, h => by rw [lefts_val] at h; cases h
  | (true, r) :: ss, t :: ts, pre, h => by
    rw [lefts_val] at h ⊢
    have hl : ts.length = (leftsS ss 0).length := by simpa using h
    rw [fillP, repl]
    split
    · have := fill_repl ss ts (pre ++ r) hl
      rw [flat_cons, ← List.append_assoc, this, flat_cons, List.append_assoc]
    · have := fill_repl ss ts [] hl
      rw [List.nil_append, List.nil_append] at this
      have e1 : (pre ++ flatS ((true, r) :: ss)).length - ((r ++ flatS ss).length + 0) = pre.length := by rw [flat_cons]; simp only [List.length_append]; omega
      simp only
      rw [e1, flat_cons, List.take_left, ← List.drop_drop, List.drop_left, List.drop_left, this, flat_cons, List.append_assoc]
theorem rep_repl : ∀ (ss : List SG) (ts : List (List UInt8)), ts.all plainT = true → Rep ss (repl ss ts)
  | [], _, _ => trivial
  | (false, x) :: ss, ts, h => ⟨rfl, (fun e => by cases e), fun _ => rfl, rep_repl ss ts h⟩
  | (true, r) :: ss, [], h => ⟨rfl, fun _ => .inl rfl, (fun e => by cases e), rep_repl ss [] h⟩
  | (true, r) :: ss, t :: ts, h => by
    simp only [List.all_cons, Bool.and_eq_true] at h
    refine ⟨rfl, fun _ => ?_, (fun e => by cases e), rep_repl ss ts h.2⟩
    show okR r (if t = [] then r else t)
    split
    · exact .inl rfl
    · rename_i ht
      exact .inr ⟨ht, h.1⟩
/-- What Put answers is found as it should be. -/
theorem puts_plain (low : List UInt8 → List UInt8) (b : List UInt8) (l : List LK) (ts : List (List UInt8)) (hf : findP low b = some l) (hl : ts.length = l.length) (hp : ts.all plainT = true) (hc : (fillP l ts b).length ≤ 4000) :
    ∃ ss, b = flatS ss ∧ l = leftsS ss 0 ∧ fillP l ts b = flatS (repl ss ts) ∧ findP low (fillP l ts b) = some (leftsS (repl ss ts) 0) := by
  unfold findP at hf
  split at hf
  · cases hf
  · obtain ⟨ss, h1, h2, h3⟩ := find_seg low b.length [] b l (Nat.le_refl _) hf
    rw [List.nil_append] at h2
    have hfill : fillP l ts b = flatS (repl ss ts) := by
      have := fill_repl ss ts [] (by rw [← h2]; exact hl)
      rw [List.nil_append, List.nil_append, ← h1, ← h2] at this
      exact this
    refine ⟨ss, h1, h2, hfill, ?_⟩
    rw [hfill] at hc ⊢
    unfold findP
    rw [if_neg (by omega)]
    have := (h3 (repl ss ts) [] (flatS (repl ss ts)).length (rep_repl ss ts hp) rfl (Nat.le_refl _)).1
    rw [this, List.nil_append]
theorem repl_lefts : ∀ (ss : List SG) (ts : List (List UInt8)) (k m : Nat), (leftsS (repl ss ts) k).length = (leftsS ss m).length
  | [], _, _, _ => rfl
  | (false, x) :: ss, ts, k, m => by rw [repl, lefts_lit, lefts_lit]; exact repl_lefts ss ts k m
  | (true, r) :: ss, [], k, m => by rw [repl, lefts_val, lefts_val]; simp [repl_lefts ss [] k m]
  | (true, r) :: ss, t :: ts, k, m => by rw [repl, lefts_val, lefts_val]; simp [repl_lefts ss ts k m]
/-- The next link. -/
theorem next_link : ∀ (ss : List SG) (ts : List (List UInt8)) (x : LK) (ls : List LK) (t : List UInt8) (ts' : List (List UInt8)), leftsS ss 0 = x :: ls → ts = t :: ts' →
    ∃ lit ss1, flatS ss = lit ++ (x.2 ++ flatS ss1) ∧ x.1 = (x.2 ++ flatS ss1).length ∧ ls = leftsS ss1 0 ∧
      ∃ r', r' = (if t = [] then x.2 else t) ∧ flatS (repl ss ts) = lit ++ (r' ++ flatS (repl ss1 ts')) ∧ leftsS (repl ss ts) 0 = ((r' ++ flatS (repl ss1 ts')).length, r') :: leftsS (repl ss1 ts') 0
  | [], _, _, _, _, _, h, _ => by cases h
  | (false, y) :: ss, ts, x, ls, t, ts', h, e => by
    rw [lefts_lit] at h
    obtain ⟨lit, ss1, h1, h2, h3, r', h4, h5, h6⟩ := next_link ss ts x ls t ts' h e
    refine ⟨y ++ lit, ss1, by rw [flat_cons, h1, List.append_assoc], h2, h3, r', h4, ?_, ?_⟩
    · rw [repl, flat_cons, h5, List.append_assoc]
    · rw [repl, lefts_lit, h6]
  | (true, r) :: ss, ts, x, ls, t, ts', h, e => by
    subst e
    rw [lefts_val] at h
    obtain ⟨rfl, rfl⟩ := List.cons.inj h
    refine ⟨[], ss, by rw [flat_cons]; rfl, rfl, rfl, _, rfl, ?_, ?_⟩
    · rw [repl, flat_cons]; rfl
    · rw [repl, lefts_val]; rfl
theorem index_no (d : UInt8) (s a : List UInt8) (h : ∀ c ∈ a, c ≠ d) : Lib.index a (d :: s) = -1 := by
  induction a with
  | nil => rfl
  | cons c a ih =>
    have hc : (d == c) = false := by simp; exact fun e => h c (by simp) e.symm
    have := ih (fun e he => h e (by simp [he]))
    simp [Lib.index, List.isPrefixOf, hc, this]
theorem unamp_no (t : List UInt8) (h : ∀ c ∈ t, c ≠ 38) : unamp t = t := by
  have hi : Lib.index t ampL = -1 := index_no 38 [97, 109, 112, 59] t h
  unfold unamp Lib.replaceAll Lib.replace
  rw [if_neg (by decide)]
  have : Lib.count t ampL = 0 := Lib.count_miss hi
  unfold Lib.replaceNum
  rw [if_pos (.inl (by decide)), this]
  rfl
theorem unamp_plain (t : List UInt8) (h : plainT t = true) : unamp t = t := unamp_no t fun c hc => (okT_facts (List.all_eq_true.1 h c hc)).2.2.2

/-- Where no tag can begin. -/
theorem find_none (low : List UInt8 → List UInt8) : ∀ (b c : List UInt8) (n m : Nat) (acc : List LK), (∀ x ∈ b, x ≠ 60) → b.length + c.length ≤ n → c.length ≤ m → acc.length ≤ 60 → findF low n acc (b ++ c) = findF low m acc c
  | [], c, n, m, acc, _, h1, h2, _ => findF_fuel low n m acc c (by simpa using h1) h2
  | x :: b, c, 0, m, acc, _, h1, _, _ => by simp at h1
  | x :: b, c, n + 1, m, acc, hb, h1, h2, h3 => by
    have hx := hb x (by simp)
    rw [List.cons_append, findF, if_neg (by simp), piece_other low x (b ++ c) (by unfold other; cases b ++ c <;> simp [hx])]
    simp only [List.append_nil]
    rw [if_neg (by omega)]
    exact find_none low b c n m acc (fun y hy => hb y (by simp [hy])) (by simp at h1; omega) h2 h3
theorem fill_nil : ∀ (l : List LK) (ts : List (List UInt8)) (b : List UInt8), (∀ t ∈ ts, t = []) → fillP l ts b = b
  | [], _, _, _ => by simp [fillP]
  | _ :: _, [], _, _ => by simp [fillP]
  | x :: l, t :: ts, b, h => by
    rw [fillP, if_pos (h t (by simp))]
    exact fill_nil l ts b (fun u hu => h u (by simp [hu]))
end Go.Proofs.YtnfidloiediflacDoor

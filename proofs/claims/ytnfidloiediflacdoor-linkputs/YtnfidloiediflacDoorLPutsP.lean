/- LinkPuts: plain facts: what is found behind Put. No program. -/
import Derived.Test.YtnfidloiediflacDoorLFill
namespace Go.Proofs.YtnfidloiediflacDoor

theorem repl_none : ∀ (ss : List SG) (ts : List (List UInt8)), leftsS ss 0 = [] → repl ss ts = ss
  | [], _, _ => rfl
  | (false, x) :: ss, ts, h => by rw [lefts_lit] at h; rw [repl, repl_none ss ts h]
  | (true, r) :: ss, ts, h => by rw [lefts_val] at h; cases h
/-- Where the law's loop is: behind some links of both pages. -/
structure PutsAt (b c : List UInt8) (l m : List LK) (ts : List (List UInt8)) (i x y : Nat) (ss : List SG) : Prop where
  xl : x ≤ b.length
  yl : y ≤ c.length
  bd : b.drop x = flatS ss
  cd : c.drop y = flatS (repl ss (ts.drop i))
  ld : l.drop i = leftsS ss 0
  md : m.drop i = leftsS (repl ss (ts.drop i)) 0
/-- The next link: what the law asks of it. -/
structure PutsStep (b c : List UInt8) (xk yk : LK) (t : List UInt8) (x y : Nat) : Prop where
  f1 : x ≤ b.length - xk.1
  f2 : y ≤ c.length - yk.1
  e1 : xk.1 ≤ b.length
  e2 : yk.1 ≤ c.length
  r1 : xk.2.length ≤ xk.1
  r2 : yk.2.length ≤ yk.1
  same : (b.drop x).take (b.length - xk.1 - x) = (c.drop y).take (c.length - yk.1 - y)
  text : unamp yk.2 = if t = [] then unamp xk.2 else t
theorem puts_step {b c : List UInt8} {l m : List LK} {ts : List (List UInt8)} {i x y : Nat} {ss : List SG} (h : PutsAt b c l m ts i x y ss) (hp : ts.all plainT = true) (hi : i < l.length) (hm : i < m.length) (ht : i < ts.length) :
    ∃ ss1, PutsStep b c (l.getD i (0, [])) (m.getD i (0, [])) (ts.getD i []) x y ∧ PutsAt b c l m ts (i + 1) (b.length - (l.getD i (0, [])).1 + (l.getD i (0, [])).2.length) (c.length - (m.getD i (0, [])).1 + (m.getD i (0, [])).2.length) ss1 := by
  have d : ∀ {α : Type} (L : List α) (k : Nat) (z : α), k < L.length → L.drop k = L.getD k z :: L.drop (k + 1) := fun L k z h => by
    rw [List.drop_eq_getElem_cons h]
    simp [List.getD_eq_getElem?_getD, List.getElem?_eq_getElem h]
  have hl := h.ld
  have hmm := h.md
  rw [d l i (0, []) hi] at hl
  rw [d m i (0, []) hm] at hmm
  have htd := d ts i [] ht
  have hpt : plainT (ts.getD i []) = true := by
    rw [List.getD_eq_getElem?_getD, List.getElem?_eq_getElem ht]
    exact List.all_eq_true.1 hp _ (List.getElem_mem ht)
  generalize l.getD i (0, []) = xk at *
  generalize m.getD i (0, []) = yk at *
  generalize ts.getD i [] = t at *
  obtain ⟨lit, ss1, h1, h2, h3, r', h4, h5, h6⟩ := next_link ss (ts.drop i) xk (l.drop (i + 1)) t (ts.drop (i + 1)) hl.symm htd
  rw [h6] at hmm
  obtain ⟨hy, hy2⟩ := List.cons.inj hmm
  have hb := h.bd
  have hc := h.cd
  rw [h1] at hb
  rw [h5] at hc
  have lb : b.length = x + (lit.length + xk.1) := by
    have := congrArg List.length hb
    have hx := h.xl
    rw [List.length_drop, List.length_append, ← h2] at this
    omega
  have lc : c.length = y + (lit.length + (r' ++ flatS (repl ss1 (ts.drop (i + 1)))).length) := by
    have := congrArg List.length hc
    have hx := h.yl
    rw [List.length_drop, List.length_append] at this
    omega
  subst hy
  have e1 : b.length - xk.1 = x + lit.length := by omega
  have e2 : c.length - (r' ++ flatS (repl ss1 (ts.drop (i + 1)))).length = y + lit.length := by omega
  have hr2 : r'.length ≤ (r' ++ flatS (repl ss1 (ts.drop (i + 1)))).length := by rw [List.length_append]; omega
  have hr1 : xk.2.length ≤ xk.1 := by rw [h2, List.length_append]; omega
  refine ⟨ss1, ⟨by omega, by simp only; omega, by omega, by simp only; omega, hr1, hr2, ?_, ?_⟩, ⟨by omega, by simp only; omega, ?_, ?_, h3, hy2⟩⟩
  · simp only
    rw [e1, e2, Nat.add_sub_cancel_left, Nat.add_sub_cancel_left, hb, hc, List.take_left, List.take_left]
  · simp only
    rw [h4]
    split
    · rfl
    · exact unamp_plain t hpt
  · rw [e1, Nat.add_assoc, ← List.drop_drop, hb, ← List.drop_drop, List.drop_left, List.drop_left]
  · simp only
    rw [e2, Nat.add_assoc, ← List.drop_drop, hc, ← List.drop_drop, List.drop_left, List.drop_left]
theorem puts_end {b c : List UInt8} {l m : List LK} {ts : List (List UInt8)} {i x y : Nat} {ss : List SG} (h : PutsAt b c l m ts i x y ss) (hi : l.length ≤ i) : b.drop x = c.drop y := by
  have hl := h.ld
  rw [List.drop_of_length_le hi] at hl
  rw [h.bd, h.cd, repl_none ss _ hl.symm]
end Go.Proofs.YtnfidloiediflacDoor

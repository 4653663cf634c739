/- Plain facts of addresses: what is led to has a scheme, no dots, and leads to itself; what is printed is read; what is read is printed but for large letters. No program. -/
import Derived.Test.YtnfidloiediflabDoorUPlain
import Derived.Test.YtnfidloiediflabDoorPlainE
namespace Go.Proofs.YtnfidloiediflabDoor

theorem checkU_zero {u : UL} (h : checkU u = 0) : longU u = false ∧ wrtU u = true ∧ frmU u = true ∧ (textU u).length ≤ 120 := by
  unfold checkU at h
  split at h
  · cases h
  · split at h
    · cases h
    · split at h
      · cases h
      · split at h
        · cases h
        · rename_i h1 h2 h3 h4
          exact ⟨by simpa using h1, by simpa using h2, by simpa using h3, by omega⟩
theorem checkU_of {u : UL} (h1 : longU u = false) (h2 : wrtU u = true) (h3 : frmU u = true) (h4 : (textU u).length ≤ 120) : checkU u = 0 := by
  unfold checkU
  rw [h1, h2, h3, if_neg (by simp), if_neg (by simp), if_neg (by simp), if_neg (by omega)]
theorem longU_false {u : UL} (h : longU u = false) : u.sch.length ≤ 120 ∧ u.hst.length ≤ 120 ∧ u.pth.length ≤ 120 ∧ u.qry.length ≤ 120 ∧ u.frg.length ≤ 120 := by
  unfold longU at h
  simp at h
  obtain ⟨⟨⟨⟨h1, h2⟩, h3⟩, h4⟩, h5⟩ := h
  exact ⟨h1, h2, h3, h4, h5⟩
theorem wrtU_true {u : UL} (h : wrtU u = true) : (u.sch = [] ∨ schemeS u.sch = true) ∧ betw 33 126 hostN u.hst = true ∧ betw 33 126 pathN u.pth = true ∧ betw 33 126 fragN u.qry = true ∧ betw 33 126 fragN u.frg = true ∧ ∀ c ∈ u.hst, isUpB c = false := by
  unfold wrtU at h
  simp only [Bool.and_eq_true, Bool.or_eq_true, List.isEmpty_iff, List.all_eq_true, Bool.not_eq_true'] at h
  obtain ⟨⟨⟨⟨⟨h1, h2⟩, h3⟩, h4⟩, h5⟩, h6⟩ := h
  exact ⟨h1, h2, h3, h4, h5, h6⟩
theorem frmU_true {u : UL} (h : frmU u = true) : (u.hh = false → u.hst = []) ∧ (u.hq = false → u.qry = []) ∧ (u.hf = false → u.frg = []) ∧ (u.hh = true → u.pth = [] ∨ preS u.pth = true) ∧ (u.hh = false → preSS u.pth = false ∧ (u.sch = [] → cutC u.pth = none)) := by
  unfold frmU at h
  split at h
  · cases h
  · rename_i h1
    simp only [Bool.or_eq_true, Bool.and_eq_true, Bool.not_eq_true', List.isEmpty_eq_false_iff, not_or, not_and, Decidable.not_not] at h1
    obtain ⟨⟨a1, a2⟩, a3⟩ := h1
    refine ⟨fun e => a1 e, fun e => a2 e, fun e => a3 e, fun e => ?_, fun e => ?_⟩
    · rw [if_pos e] at h
      simpa using h
    · rw [if_neg (by rw [e]; simp)] at h
      split at h
      · cases h
      · rename_i h2
        unfold likeU at h2
        rw [e] at h2
        refine ⟨by simpa using h2, fun es => ?_⟩
        rw [es] at h
        simpa using h
theorem frmU_of {u : UL} (h1 : u.hh = false → u.hst = []) (h2 : u.hq = false → u.qry = []) (h3 : u.hf = false → u.frg = []) (h4 : u.hh = true → u.pth = [] ∨ preS u.pth = true) (h5 : u.hh = false → preSS u.pth = false ∧ (u.sch = [] → cutC u.pth = none)) : frmU u = true := by
  unfold frmU
  rw [if_neg (by
    simp only [Bool.or_eq_true, Bool.and_eq_true, Bool.not_eq_true', List.isEmpty_eq_false_iff, not_or, not_and, Decidable.not_not]
    exact ⟨⟨h1, h2⟩, h3⟩)]
  cases e : u.hh with
  | true => rw [if_pos rfl]; simpa using h4 e
  | false =>
    obtain ⟨a, b⟩ := h5 e
    rw [if_neg (by simp), if_neg (by unfold likeU; rw [a]; simp)]
    cases es : u.sch with
    | nil => rw [b es]; rfl
    | cons c r => rfl

theorem lead_out {b u : UL} (h : (leadU b u).2 = 0) : checkU b = 0 ∧ checkU u = 0 ∧ b.sch.isEmpty = false ∧ likeU (undU (fullU b u)) = false ∧ checkU (undU (fullU b u)) = 0 ∧ leadU b u = (undU (fullU b u), 0) := by
  unfold leadU at h ⊢
  split at h
  · exact absurd h (by assumption)
  · split at h
    · exact absurd h (by assumption)
    · split at h
      · cases h
      · unfold endU at h ⊢
        split at h
        · cases h
        · unfold checkedU at h ⊢
          split at h
          · rename_i h1 h2 h3 h4 h5
            have h1' : checkU b = 0 := by omega
            have h2' : checkU u = 0 := by omega
            have h4' : likeU (undU (fullU b u)) = false := by simpa using h4
            refine ⟨h1', h2', by simpa using h3, h4', h5, ?_⟩
            rw [if_neg h1, if_neg h2, if_neg h3, if_neg h4, if_pos h5]
          · exact absurd h (by assumption)
theorem lead_in {b u x : UL} (h1 : checkU b = 0) (h2 : checkU u = 0) (h3 : b.sch.isEmpty = false) (h4 : likeU x = false) (h5 : checkU x = 0) (hx : undU (fullU b u) = x) : leadU b u = (x, 0) := by
  unfold leadU
  rw [if_neg (by simpa using h1), if_neg (by simpa using h2), if_neg (by rw [h3]; simp), hx]
  unfold endU
  rw [if_neg (by rw [h4]; simp)]
  unfold checkedU
  rw [if_pos h5]

theorem full_same (b c u : UL) (h1 : c.sch = b.sch) (h2 : c.hh = b.hh) (h3 : c.hst = b.hst) (h : u.hh = true ∨ preS u.pth = true ∨ u.sch ≠ []) : fullU c u = fullU b u := by
  unfold fullU
  split
  · rename_i hs
    unfold compU
    rcases h with h | h | h
    · rw [if_pos h, if_pos h, h1]
    · have hp : u.pth.isEmpty = false := by cases hu : u.pth with
        | nil => rw [hu] at h; cases h
        | cons a l => rfl
      rw [h1, h2, h3]
      split
      · rfl
      · simp only [hp, Bool.false_eq_true, if_false]
    · exact absurd (by simpa using hs) h
  · rfl
/-- URLPaths. -/
theorem paths_plain (b c u : UL) (h1 : c.sch = b.sch) (h2 : c.hh = b.hh) (h3 : c.hst = b.hst) (e : (leadU b u).2 = 0) (f : (leadU c u).2 = 0) (h : u.hh = true ∨ preS u.pth = true ∨ u.sch ≠ []) : (leadU b u).1 = (leadU c u).1 := by
  rw [(lead_out e).2.2.2.2.2, (lead_out f).2.2.2.2.2, full_same b c u h1 h2 h3 h]

theorem comp_keeps (b u : UL) : (compU b u).sch = b.sch ∧ (compU b u).hf = u.hf ∧ (compU b u).frg = u.frg := by
  unfold compU
  repeat' split
  all_goals exact ⟨rfl, rfl, rfl⟩
theorem und_keeps (u : UL) : (undU u).sch = u.sch ∧ (undU u).hf = u.hf ∧ (undU u).frg = u.frg ∧ (undU u).hh = u.hh ∧ (undU u).hst = u.hst ∧ (undU u).hq = u.hq ∧ (undU u).qry = u.qry := by
  unfold undU
  split
  all_goals exact ⟨rfl, rfl, rfl, rfl, rfl, rfl, rfl⟩
theorem full_keeps (b u : UL) (hb : b.sch.isEmpty = false) : (fullU b u).sch.isEmpty = false ∧ (fullU b u).hf = u.hf ∧ (fullU b u).frg = u.frg := by
  unfold fullU
  split
  · obtain ⟨a, b', c⟩ := comp_keeps b u
    rw [a, b', c]
    exact ⟨hb, rfl, rfl⟩
  · rename_i h; exact ⟨by simpa using h, rfl, rfl⟩

theorem dirP_append (l : List UInt8) : ∃ m, l = dirP l ++ m := by
  refine ⟨(l.reverse.takeWhile (fun c => !(c == 47))).reverse, ?_⟩
  unfold dirP
  rw [← List.reverse_append, List.takeWhile_append_dropWhile, List.reverse_reverse]
theorem preS_iff (l : List UInt8) : preS l = true ↔ ∃ r, l = 47 :: r := by
  cases l with
  | nil => simp [preS]
  | cons a l => simp [preS]
/-- What begins with a stroke has one in its directory. -/
theorem dirP_pre (l : List UInt8) (h : preS l = true) : preS (dirP l) = true := by
  obtain ⟨r, rfl⟩ := (preS_iff l).1 h
  unfold dirP
  rw [List.reverse_cons, List.dropWhile_append]
  split
  · rfl
  · rw [List.reverse_append]; rfl
theorem preS_append (a b : List UInt8) (h : preS a = true) : preS (a ++ b) = true := by
  obtain ⟨r, rfl⟩ := (preS_iff a).1 h
  rfl

/-- Of a checked one that has a host, the path is empty or begins with a stroke; also behind completing. -/
theorem full_path (b u : UL) (hb : checkU b = 0) (hu : checkU u = 0) (h : (fullU b u).hh = true ∨ preS (fullU b u).pth = true) : (fullU b u).pth = [] ∨ preS (fullU b u).pth = true := by
  obtain ⟨_, _, fb, _⟩ := checkU_zero hb
  obtain ⟨_, _, fu, _⟩ := checkU_zero hu
  obtain ⟨_, _, _, b4, b5⟩ := frmU_true fb
  obtain ⟨_, _, _, u4, u5⟩ := frmU_true fu
  refine h.elim ?_ .inr
  clear h
  unfold fullU
  split
  · unfold compU
    split
    · intro h; exact u4 (by assumption)
    · split
      · split
        · intro h; exact b4 h
        · intro h; exact b4 h
      · split
        · intro h; right; assumption
        · split
          · intro h; right; rfl
          · rename_i h1 h2 h3 h4
            intro h
            right
            have hh : b.hh = true := h
            rw [hh] at h4
            rcases b4 hh with e | e
            · rw [e] at h4; exact absurd rfl h4
            · exact preS_append _ _ (dirP_pre _ e)
  · intro h; exact u4 h

/-- What is led to has no dots to go. -/
theorem lead_dots {b u : UL} (h : (leadU b u).2 = 0) (hp : (leadU b u).1.hh = true ∨ preS (leadU b u).1.pth = true) : ∀ x ∈ partsP (leadU b u).1.pth, isDot x = false := by
  obtain ⟨h1, h2, h3, h4, h5, h6⟩ := lead_out h
  rw [h6] at hp ⊢
  simp only at hp ⊢
  have hk := und_keeps (fullU b u)
  by_cases hc : ((fullU b u).hh || preS (fullU b u).pth) = true
  · have := full_path b u h1 h2 (by simpa using hc)
    unfold undU
    rw [if_pos hc]
    exact undot_free _ this
  · have e : undU (fullU b u) = fullU b u := by unfold undU; rw [if_neg hc]
    rw [e] at hp
    exact absurd (by simpa using hp) hc
theorem und_self {x : UL} (h : x.hh = true ∨ preS x.pth = true → ∀ s ∈ partsP x.pth, isDot s = false) : undU x = x := by
  unfold undU
  split
  · rename_i hc
    rw [undot_self _ (h (by simpa using hc))]
  · rfl
theorem lead_self {b u c : UL} (h : (leadU b u).2 = 0) (hc : checkU c = 0) (hs : c.sch.isEmpty = false) : leadU c (leadU b u).1 = ((leadU b u).1, 0) := by
  obtain ⟨h1, h2, h3, h4, h5, h6⟩ := lead_out h
  have hd := lead_dots h
  rw [h6] at hd ⊢
  simp only at hd ⊢
  have hk := und_keeps (fullU b u)
  have hf := full_keeps b u h3
  refine lead_in hc h5 hs h4 h5 ?_
  have e : fullU c (undU (fullU b u)) = undU (fullU b u) := by
    unfold fullU
    rw [if_neg]
    show ¬ (undU (fullU b u)).sch.isEmpty = true
    rw [hk.1, hf.1]; simp
  rw [e]
  exact und_self hd

def noFrag (x : UL) : UL := { x with hf := false, frg := [] }
theorem check_noFrag {x : UL} (h : checkU x = 0) : checkU (noFrag x) = 0 := by
  obtain ⟨h1, h2, h3, h4⟩ := checkU_zero h
  obtain ⟨a1, a2, a3, a4, a5⟩ := longU_false h1
  obtain ⟨b1, b2, b3, b4, b5, b6⟩ := wrtU_true h2
  obtain ⟨c1, c2, c3, c4, c5⟩ := frmU_true h3
  refine checkU_of ?_ ?_ (frmU_of c1 c2 (fun _ => rfl) c4 c5) ?_
  · unfold longU noFrag; simp; omega
  · unfold wrtU noFrag
    simp only [Bool.and_eq_true, Bool.or_eq_true, List.isEmpty_iff, List.all_eq_true, Bool.not_eq_true']
    exact ⟨⟨⟨⟨⟨b1, b2⟩, b3⟩, b4⟩, rfl⟩, b6⟩
  · refine Nat.le_trans ?_ h4
    unfold textU noFrag opt
    simp only [List.length_append]
    simp
theorem lead_here {b u : UL} (h : (leadU b u).2 = 0) : leadU (leadU b u).1 noUL = (noFrag (leadU b u).1, 0) := by
  obtain ⟨h1, h2, h3, h4, h5, h6⟩ := lead_out h
  have hd := lead_dots h
  rw [h6] at hd ⊢
  simp only at hd ⊢
  have hk := und_keeps (fullU b u)
  have hf := full_keeps b u h3
  have hs : (undU (fullU b u)).sch.isEmpty = false := by rw [hk.1]; exact hf.1
  generalize undU (fullU b u) = x at *
  refine lead_in h5 (by rfl) hs h4 (check_noFrag h5) ?_
  have e : fullU x noUL = noFrag x := rfl
  rw [e]
  exact und_self hd
theorem lead_keeps {b u : UL} (h : (leadU b u).2 = 0) : checkU (leadU b u).1 = 0 ∧ (leadU b u).1.sch.isEmpty = false ∧ (leadU b u).1.hf = u.hf ∧ (leadU b u).1.frg = u.frg := by
  obtain ⟨h1, h2, h3, h4, h5, h6⟩ := lead_out h
  have hk := und_keeps (fullU b u)
  have hf := full_keeps b u h3
  rw [h6]
  simp only
  refine ⟨h5, ?_, ?_, ?_⟩
  · rw [hk.1]; exact hf.1
  · rw [hk.2.1]; exact hf.2.1
  · rw [hk.2.2.1]; exact hf.2.2
end Go.Proofs.YtnfidloiediflabDoor

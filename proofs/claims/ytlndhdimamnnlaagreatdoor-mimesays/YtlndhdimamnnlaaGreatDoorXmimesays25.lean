
import Derived.Test.YtlndhdimamnnlaaGreatDoorXmimesays24
import Derived.Lib.SplitLaws
namespace Go.Proofs.YtlndhdimamnnlaaGreatDoor
def txCs : List UInt8 := [59, 32, 99, 104, 97, 114, 115, 101, 116, 61]
def txBd : List UInt8 := [59, 32, 98, 111, 117, 110, 100, 97, 114, 121, 61, 34]
def howTx (n : Int) : List UInt8 := if n = 1 then how1 else if n = 2 then how2 else how0
def kindP (p : PT) (br : List UInt8) : List UInt8 := p.ty.data.toList ++ (if p.cs.data.toList = [] then [] else txCs ++ p.cs.data.toList) ++ (if br = [] then [] else txBd ++ br ++ [34])
def fieldsP (p : PT) (br : List UInt8) : List Fld :=
 [(nmType, kindP p br)] ++ (if p.id.data.toList = [] then [] else [(nmID, [60] ++ p.id.data.toList ++ [62])]) ++ (if p.loc.data.toList = [] then [] else [(nmLoc, p.loc.data.toList)]) ++ (if br = [] then [(nmHow, howTx p.how)] else [])
def headP (p : PT) (br : List UInt8) : List UInt8 := textF (fieldsP p br)
theorem inB_of {lo hi : Nat} {but : List UInt8} {c : UInt8} (h1 : lo ≤ c.toNat) (h2 : c.toNat ≤ hi) (h3 : but.contains c = false) : inB lo hi but c = true := by
 unfold inB
 rw [h3]
 simp [h1, h2]
theorem value_of {l : List UInt8} (h1 : l.length ≤ 900) (h2 : ∀ c ∈ l, 32 ≤ c.toNat ∧ c.toNat ≤ 126) (h3 : l.head? ≠ some 32) (h4 : l.getLast? ≠ some 32) : valueS l = true := by
 unfold valueS
 have e : betw 32 126 [] l = true := List.all_eq_true.2 fun c hc => inB_of (h2 c hc).1 (h2 c hc).2 rfl
 rw [e]
 simp [h1, h3, h4]
theorem word_facts {l : List UInt8} (h : wordS l = true) : l.length ≤ 120 ∧ ∀ c ∈ l, 33 ≤ c.toNat ∧ c.toNat ≤ 126 ∧ c ≠ 34 ∧ c ≠ 60 ∧ c ≠ 62 := by
 rw [wordS, Bool.and_eq_true] at h
 refine ⟨of_decide_eq_true h.1, fun c hc => ?_⟩
 have := inB_at (l := l) h.2 hc
 refine ⟨this.1, this.2.1, ?_, ?_, ?_⟩
 all_goals (rintro rfl; exact absurd this.2.2 (by decide))
theorem type_facts {l : List UInt8} (h : typeS l = true) : l ≠ [] ∧ l.length ≤ 61 ∧ (∀ c ∈ l, 33 ≤ c.toNat ∧ c.toNat ≤ 126 ∧ c ≠ 59 ∧ c ≠ 61) ∧ ∀ c ∈ l, ¬ (65 ≤ c.toNat ∧ c.toNat ≤ 90) := by
 unfold typeS at h
 cases hc : cutB 47 l with
 | none => rw [hc] at h; cases h
 | some x =>
  obtain ⟨a, b⟩ := x
  rw [hc] at h
  simp only [Bool.and_eq_true] at h
  obtain ⟨⟨ha, hb⟩, hn⟩ := h
  have fa := token_facts ha
  have fb := token_facts hb
  have e := (cutB_some 47 l a b hc).1
  have tk : ∀ {x : List UInt8}, (∀ c ∈ x, 33 ≤ c.toNat ∧ c.toNat ≤ 126 ∧ specials.contains c = false) → ∀ c ∈ x, 33 ≤ c.toNat ∧ c.toNat ≤ 126 ∧ c ≠ 59 ∧ c ≠ 61 := by
   intro x hx c hcx
   have h3 := hx c hcx
   refine ⟨h3.1, h3.2.1, ?_, ?_⟩
   all_goals (rintro rfl; exact absurd h3.2.2 (by decide))
  refine ⟨by rw [e]; simp, by rw [e, List.length_append, List.length_cons]; omega, fun c hcl => ?_, fun c hcl hbig => ?_⟩
  ·rw [e] at hcl
   rcases List.mem_append.1 hcl with h1 | h1
   ·exact tk fa.2.2 c h1
   ·rcases List.mem_cons.1 h1 with rfl | h1
    ·decide
    ·exact tk fb.2.2 c h1
  ·have : l.any (fun c => decide (65 ≤ c.toNat) && decide (c.toNat ≤ 90)) = true := List.any_eq_true.2 ⟨c, hcl, by simp [hbig.1, hbig.2]⟩
   rw [this] at hn
   cases hn
theorem head_of {l : List UInt8} (m : List UInt8) (hl : l ≠ []) (h : ∀ c ∈ l, 33 ≤ c.toNat) : (l ++ m).head? ≠ some 32 := by
 cases l with
 | nil => exact absurd rfl hl
 | cons a l =>
  simp
  rintro rfl
  exact absurd (h 32 (by simp)) (by decide)
theorem last_of {l : List UInt8} (m : List UInt8) (hl : l ≠ []) (h : ∀ c ∈ l, 33 ≤ c.toNat) : (m ++ l).getLast? ≠ some 32 := by
 rw [List.getLast?_append]
 cases hq : l.getLast? with
 | none => exact absurd (List.getLast?_eq_none_iff.1 hq) hl
 | some d =>
  simp
  rintro rfl
  exact absurd (h 32 (List.mem_of_getLast? hq)) (by decide)
def BrTok (br : List UInt8) : Prop := br.length ≤ 30 ∧ ∀ c ∈ br, 33 ≤ c.toNat ∧ c.toNat ≤ 126 ∧ c ≠ 34
theorem texts_ok {p : PT} (h : textsOk p = true) : typeS p.ty.data.toList = true ∧ (p.cs.data.toList = [] ∨ tokenS p.cs.data.toList = true) ∧ wordS p.id.data.toList = true ∧ wordS p.loc.data.toList = true := by
 unfold textsOk at h
 simp only [Bool.and_eq_true, Bool.or_eq_true, List.isEmpty_iff] at h
 exact ⟨h.1.1.1, h.1.1.2, h.1.2, h.2⟩
theorem kind_value {p : PT} (h : textsOk p = true) {br : List UInt8} (hb : BrTok br) : valueS (kindP p br) = true := by
 obtain ⟨ht, hc, -, -⟩ := texts_ok h
 obtain ⟨t1, t2, t3, -⟩ := type_facts ht
 have c1 : p.cs.data.toList.length ≤ 30 ∧ ∀ c ∈ p.cs.data.toList, 33 ≤ c.toNat ∧ c.toNat ≤ 126 := by
  rcases hc with e | e
  ·rw [e]; simp
  ·exact ⟨(token_facts e).2.1, fun c hx => ⟨((token_facts e).2.2 c hx).1, ((token_facts e).2.2 c hx).2.1⟩⟩
 have kx : ∀ c ∈ txCs, 32 ≤ c.toNat ∧ c.toNat ≤ 126 := by decide
 have ky : ∀ c ∈ txBd, 32 ≤ c.toNat ∧ c.toNat ≤ 126 := by decide
 have l1 : txCs.length = 10 := rfl
 have l2 : txBd.length = 12 := rfl
 unfold kindP
 refine value_of ?_ ?_ ?_ ?_
 ·have := hb.1
  split <;> split <;> simp only [List.length_append, List.length_nil, List.length_cons, l1, l2] <;> omega
 ·intro c hx
  have a1 : ∀ c ∈ p.ty.data.toList, 32 ≤ c.toNat ∧ c.toNat ≤ 126 := fun c hc => ⟨by have := (t3 c hc).1; omega, (t3 c hc).2.1⟩
  have a2 : ∀ c ∈ p.cs.data.toList, 32 ≤ c.toNat ∧ c.toNat ≤ 126 := fun c hc => ⟨by have := (c1.2 c hc).1; omega, (c1.2 c hc).2⟩
  have a3 : ∀ c ∈ br, 32 ≤ c.toNat ∧ c.toNat ≤ 126 := fun c hc => ⟨by have := (hb.2 c hc).1; omega, (hb.2 c hc).2.1⟩
  rcases List.mem_append.1 hx with hx | hx
  ·rcases List.mem_append.1 hx with hx | hx
   ·exact a1 c hx
   ·split at hx
    ·simp at hx
    ·rcases List.mem_append.1 hx with hx | hx
     ·exact kx c hx
     ·exact a2 c hx
  ·split at hx
   ·simp at hx
   ·rcases List.mem_append.1 hx with hx | hx
    ·rcases List.mem_append.1 hx with hx | hx
     ·exact ky c hx
     ·exact a3 c hx
    ·simp at hx; rw [hx]; decide
 ·rw [List.append_assoc]
  exact head_of _ t1 (fun c hc => (t3 c hc).1)
 ·by_cases hbr : br = []
  ·rw [if_pos hbr, List.append_nil]
   by_cases hcs : p.cs.data.toList = []
   ·rw [if_pos hcs, List.append_nil]
    exact last_of [] t1 (fun c hc => (t3 c hc).1)
   ·rw [if_neg hcs, ← List.append_assoc]
    exact last_of _ hcs (fun c hc => (c1.2 c hc).1)
  ·rw [if_neg hbr, ← List.append_assoc]
   exact last_of _ (by simp) (by intro c hc; simp at hc; rw [hc]; decide)
theorem how_value (n : Int) : valueS (howTx n) = true := by
 unfold howTx
 split
 ·decide
 ·split <;> decide
theorem word_value {l : List UInt8} (h : wordS l = true) : valueS l = true ∧ valueS ([60] ++ l ++ [62]) = true := by
 obtain ⟨h1, h2⟩ := word_facts h
 have a : ∀ c ∈ l, 33 ≤ c.toNat := fun c hc => (h2 c hc).1
 constructor
 ·refine value_of (by omega) (fun c hc => ⟨by have := a c hc; omega, (h2 c hc).2.1⟩) ?_ ?_
  ·by_cases e : l = []
   ·rw [e]; simp
   ·simpa using head_of [] e a
  ·by_cases e : l = []
   ·rw [e]; simp
   ·exact last_of [] e a
 ·refine value_of (by simp; omega) (fun c hc => ?_) (by simp) (last_of _ (by simp) (by intro c hc; simp at hc; rw [hc]; decide))
  simp only [List.mem_append, List.mem_cons, List.not_mem_nil, or_false] at hc
  rcases hc with (rfl | hc) | rfl
  ·decide
  ·exact ⟨by have := a c hc; omega, (h2 c hc).2.1⟩
  ·decide
theorem fields_check {p : PT} (h : textsOk p = true) {br : List UInt8} (hb : BrTok br) : checkF (fieldsP p br) = 0 := by
 have hk := kind_value h hb
 obtain ⟨-, -, hi, hl⟩ := texts_ok h
 have hi2 := (word_value hi).2
 have hl2 := (word_value hl).1
 have hw := how_value p.how
 have n1 : tokenS nmType = true := by decide
 have n2 : tokenS nmID = true := by decide
 have n3 : tokenS nmLoc = true := by decide
 have n4 : tokenS nmHow = true := by decide
 unfold fieldsP checkF okF
 generalize kindP p br = K at *
 generalize p.id.data.toList = I at *
 generalize p.loc.data.toList = Lo at *
 generalize howTx p.how = Hw at *
 by_cases e1 : I = [] <;> by_cases e2 : Lo = [] <;> by_cases e3 : br = [] <;> simp only [e1, e2, e3, if_true, if_false, List.append_nil, List.cons_append, List.nil_append, List.length_cons, List.length_nil, List.all_cons, List.all_nil, hk, hl2, hw, n1, n2, n3, n4, Bool.and_true, Bool.and_self] <;> first | decide | (simp only [List.cons_append, List.nil_append] at hi2; rw [hi2]; decide)
theorem head_read {p : PT} (h : textsOk p = true) {br : List UInt8} (hb : BrTok br) (more : List UInt8) (hm : (headP p br ++ more).length ≤ 40000) : parseF (headP p br ++ more) = (fieldsP p br, (headP p br).length, 0) := by
 obtain ⟨h1, h2⟩ := checkF_facts (fields_check h hb)
 unfold parseF
 rw [if_neg (by omega)]
 have := parseGo_text (fieldsP p br) [] 0 ((headP p br ++ more).length + 1) more (by simpa using h1) rfl h2 (by unfold headP; omega)
 unfold headP at this ⊢
 rw [this]
 simp
theorem e_tt : eqF nmType nmType = true := by decide +kernel
theorem e_ti : eqF nmType nmID = false := by decide +kernel
theorem e_tl : eqF nmType nmLoc = false := by decide +kernel
theorem e_th : eqF nmType nmHow = false := by decide +kernel
theorem e_ii : eqF nmID nmID = true := by decide +kernel
theorem e_il : eqF nmID nmLoc = false := by decide +kernel
theorem e_ih : eqF nmID nmHow = false := by decide +kernel
theorem e_ll : eqF nmLoc nmLoc = true := by decide +kernel
theorem e_li : eqF nmLoc nmID = false := by decide +kernel
theorem e_lh : eqF nmLoc nmHow = false := by decide +kernel
theorem e_hh : eqF nmHow nmHow = true := by decide +kernel
theorem e_hi : eqF nmHow nmID = false := by decide +kernel
theorem e_hl : eqF nmHow nmLoc = false := by decide +kernel
theorem e_cc : eqF nmChar nmChar = true := by decide +kernel
theorem e_bb : eqF nmBound nmBound = true := by decide +kernel
theorem get_type (p : PT) (br : List UInt8) : getN nmType (fieldsP p br) = kindP p br := by
 unfold getN fieldsP
 simp only [List.cons_append, List.find?_cons, e_tt]
theorem get_id (p : PT) (br : List UInt8) : getN nmID (fieldsP p br) = if p.id.data.toList = [] then [] else [60] ++ p.id.data.toList ++ [62] := by
 unfold getN fieldsP
 by_cases e1 : p.id.data.toList = [] <;> by_cases e2 : p.loc.data.toList = [] <;> by_cases e3 : br = [] <;> simp only [e1, e2, e3, if_true, if_false, List.append_nil, List.nil_append, List.cons_append, List.find?_cons, List.find?_nil, e_ti, e_ii, e_li, e_hi]
theorem get_loc (p : PT) (br : List UInt8) : getN nmLoc (fieldsP p br) = p.loc.data.toList := by
 unfold getN fieldsP
 by_cases e1 : p.id.data.toList = [] <;> by_cases e2 : p.loc.data.toList = [] <;> by_cases e3 : br = [] <;> simp only [e1, e2, e3, if_true, if_false, List.append_nil, List.nil_append, List.cons_append, List.find?_cons, List.find?_nil, e_tl, e_il, e_ll, e_hl]
theorem get_how (p : PT) : getN nmHow (fieldsP p []) = howTx p.how := by
 unfold getN fieldsP
 by_cases e1 : p.id.data.toList = [] <;> by_cases e2 : p.loc.data.toList = [] <;> simp only [e1, e2, if_true, if_false, List.append_nil, List.nil_append, List.cons_append, List.find?_cons, e_th, e_ih, e_lh, e_hh]
theorem bare_id (l : List UInt8) : bareI (if l = [] then [] else [60] ++ l ++ [62]) = l := by
 split
 ·rename_i e; rw [e]; rfl
 ·unfold bareI
  rw [if_pos ⟨by simp, by rw [List.getLast?_append]; simp⟩]
  simp
theorem small_type {l : List UInt8} (h : ∀ c ∈ l, ¬ (65 ≤ c.toNat ∧ c.toNat ≤ 90)) : small8 l = l := by
 unfold small8 Lib.toLowerA
 refine (List.map_congr_left (g := id) fun c hc => ?_).trans (List.map_id _)
 have := h c hc
 apply UInt8.toNat_inj.1
 rw [id, lower_num8, if_neg this]
theorem trim_type {l : List UInt8} (h : ∀ c ∈ l, 33 ≤ c.toNat) : trimBy isSp l = l := by
 have k : ∀ c ∈ l, isSp c = false := by
  intro c hc
  have := h c hc
  rw [← Bool.not_eq_true]
  intro e
  simp [isSp] at e
  rw [e] at this
  exact absurd this (by decide)
 exact trimBy_self isSp l (fun c hc => k c (List.mem_of_mem_head? hc)) (fun c hc => k c (List.mem_of_getLast? hc))
theorem kindOf_nil (p : PT) (br : List UInt8) (h : typeS p.ty.data.toList = true) : kindOf (fieldsP p br) = kindP p br := by
 unfold kindOf
 rw [get_type, if_neg]
 intro e
 have := (type_facts h).1
 unfold kindP at e
 simp at e
 exact this (by simpa using e.1)
theorem params_none {p : PT} (h : textsOk p = true) (hc : p.cs.data.toList = []) : paramsF (kindP p []) = (p.ty.data.toList, [], 0) := by
 have hv := kind_value h (br := []) ⟨by simp, by simp⟩
 obtain ⟨t1, t2, t3, t4⟩ := type_facts (texts_ok h).1
 have e : kindP p [] = p.ty.data.toList := by unfold kindP; rw [hc]; simp
 rw [e] at hv ⊢
 unfold paramsF
 rw [if_pos hv, cutP_none (cutB_off 59 _ (fun c hx => (t3 c hx).2.2.1)), trim_type (fun c hx => (t3 c hx).1), small_type t4]
 rfl
theorem params_cs {p : PT} (h : textsOk p = true) (hc : p.cs.data.toList ≠ []) : paramsF (kindP p []) = (p.ty.data.toList, [(nmChar, p.cs.data.toList)], 0) := by
 have hv := kind_value h (br := []) ⟨by simp, by simp⟩
 obtain ⟨ht, hk, -, -⟩ := texts_ok h
 have hk : tokenS p.cs.data.toList = true := by rcases hk with e | e; exact absurd e hc; exact e
 obtain ⟨t1, t2, t3, t4⟩ := type_facts ht
 have e : kindP p [] = p.ty.data.toList ++ 59 :: (32 :: (nmChar ++ 61 :: p.cs.data.toList)) := by unfold kindP; rw [if_neg hc]; simp [txCs, nmChar]
 rw [e] at hv ⊢
 have k1 := tok_no hk 59 (.inl (by decide))
 have k2 := tok_no hk 34 (.inl (by decide))
 have k3 := tok_sp hk
 have kne := (token_facts hk).1
 have hcut1 : cutP 61 (32 :: (nmChar ++ 61 :: p.cs.data.toList)) = (32 :: nmChar, p.cs.data.toList, true) := cutP_some (cutB_at 61 (32 :: nmChar) p.cs.data.toList (by decide))
 have hdw : p.cs.data.toList.dropWhile isSp = p.cs.data.toList := dropWhile_head _ _ (fun c hx => k3 c (List.mem_of_mem_head? hx))
 have hde : dropEnd isSp p.cs.data.toList = p.cs.data.toList := dropEnd_last _ _ (fun c hx => k3 c (List.mem_of_getLast? hx))
 have hset : setS p.cs.data.toList = (p.cs.data.toList, [], false, true) := by
  unfold setS
  have hh : ¬ p.cs.data.toList.head? = some 34 := fun e => k2 34 (List.mem_of_mem_head? e) rfl
  rw [if_neg hh, cutP_none (cutB_off 59 _ k1)]
  simp only
  rw [hde, hk]
 have hnm : nameS (32 :: (nmChar ++ 61 :: p.cs.data.toList)) = nmChar := by unfold nameS; rw [hcut1]; show trimBy isSp (32 :: nmChar) = nmChar; decide
 have hrest : restS (32 :: (nmChar ++ 61 :: p.cs.data.toList)) = (p.cs.data.toList, [], false, true) := by unfold restS; rw [hcut1]; simp only; rw [hdw, hset]
 have hok : paramOk (32 :: (nmChar ++ 61 :: p.cs.data.toList)) = true := by
  unfold paramOk nameOk
  rw [hcut1, hnm, hrest]
  show (true && tokenS nmChar && true) = true
  decide
 have hfl : paramFld (32 :: (nmChar ++ 61 :: p.cs.data.toList)) = (nmChar, p.cs.data.toList) := by
  unfold paramFld
  rw [hnm, hrest]
  have : small8 nmChar = nmChar := by decide
  rw [this]
 unfold paramsF
 rw [if_pos hv, cutP_some (cutB_at 59 _ _ (fun c hx => (t3 c hx).2.2.1)), trim_type (fun c hx => (t3 c hx).1), small_type t4]
 simp only
 rw [paramsGo, if_pos rfl, if_pos hok, if_neg (by decide), hrest, hfl]
 simp only
 have hlen : ∃ k, (p.ty.data.toList ++ 59 :: (32 :: (nmChar ++ 61 :: p.cs.data.toList))).length = k + 1 := ⟨_, by rw [List.length_append, List.length_cons, ← Nat.add_assoc]⟩
 obtain ⟨k, hk2⟩ := hlen
 rw [hk2, paramsGo, if_neg (by decide)]
 rfl
theorem params_br {p : PT} (h : textsOk p = true) (hc : p.cs.data.toList = []) {br : List UInt8} (hb : BrTok br) (hne : br ≠ []) : paramsF (kindP p br) = (p.ty.data.toList, [(nmBound, br)], 0) := by
 have hv := kind_value h hb
 obtain ⟨ht, -, -, -⟩ := texts_ok h
 obtain ⟨t1, t2, t3, t4⟩ := type_facts ht
 have e : kindP p br = p.ty.data.toList ++ 59 :: (32 :: (nmBound ++ 61 :: (34 :: (br ++ [34])))) := by unfold kindP; rw [if_pos hc, if_neg hne]; simp [txBd, nmBound]
 rw [e] at hv ⊢
 have hcut1 : cutP 61 (32 :: (nmBound ++ 61 :: (34 :: (br ++ [34])))) = (32 :: nmBound, 34 :: (br ++ [34]), true) := cutP_some (cutB_at 61 (32 :: nmBound) _ (by decide))
 have hcut2 : cutP 34 (br ++ [34]) = (br, [], true) := cutP_some (cutB_at 34 br [] (fun c hx => (hb.2 c hx).2.2))
 have hset : setS (34 :: (br ++ [34])) = (br, [], false, true) := by
  unfold setS
  rw [if_pos (by rfl), List.tail_cons, hcut2]
  rfl
 have hnm : nameS (32 :: (nmBound ++ 61 :: (34 :: (br ++ [34])))) = nmBound := by unfold nameS; rw [hcut1]; show trimBy isSp (32 :: nmBound) = nmBound; decide
 have hrest : restS (32 :: (nmBound ++ 61 :: (34 :: (br ++ [34])))) = (br, [], false, true) := by
  unfold restS; rw [hcut1]; simp only
  rw [dropWhile_head isSp (34 :: (br ++ [34])) (by intro c hx; simp at hx; rw [← hx]; decide), hset]
 have hok : paramOk (32 :: (nmBound ++ 61 :: (34 :: (br ++ [34])))) = true := by
  unfold paramOk nameOk
  rw [hcut1, hnm, hrest]
  show (true && tokenS nmBound && true) = true
  decide
 have hfl : paramFld (32 :: (nmBound ++ 61 :: (34 :: (br ++ [34])))) = (nmBound, br) := by
  unfold paramFld
  rw [hnm, hrest]
  have : small8 nmBound = nmBound := by decide
  rw [this]
 unfold paramsF
 rw [if_pos hv, cutP_some (cutB_at 59 _ _ (fun c hx => (t3 c hx).2.2.1)), trim_type (fun c hx => (t3 c hx).1), small_type t4]
 simp only
 rw [paramsGo, if_pos rfl, if_pos hok, if_neg (by decide), hrest, hfl]
 simp only
 have hlen : ∃ k, (p.ty.data.toList ++ 59 :: (32 :: (nmBound ++ 61 :: (34 :: (br ++ [34]))))).length = k + 1 := ⟨_, by rw [List.length_append, List.length_cons, ← Nat.add_assoc]⟩
 obtain ⟨k, hk2⟩ := hlen
 rw [hk2, paramsGo, if_neg (by decide)]
 rfl
theorem low_how0 : Lib.toLowerD how0 = how0 := by decide +kernel
theorem low_how1 : Lib.toLowerD how1 = how1 := by decide +kernel
theorem low_how2 : Lib.toLowerD how2 = how2 := by decide +kernel
end Go.Proofs.YtlndhdimamnnlaaGreatDoor



namespace Go.Proofs.YtlndhdimamnnlaaGreatDoor
open Go.RowKit
theorem checkV_zero (l : List FV) (h : checkF (l.map fl) = 0) : checkV l = 0 := by
 obtain ⟨h1, h2⟩ := checkF_facts h
 unfold checkV badN
 rw [if_neg (by simpa using h1)]
 have : okAll l = true := by
  unfold okAll
  rw [List.all_map] at h2
  exact h2
 rw [if_pos this]
def kb1 (ty cs : ByteArray) : ByteArray := if cs.data.toList = [] then ty else ty ++ (⟨#[59, 32, 99, 104, 97, 114, 115, 101, 116, 61]⟩ ++ cs)
def kb2 (k B : ByteArray) : ByteArray := if B.data.toList = [] then k else k ++ (⟨#[59, 32, 98, 111, 117, 110, 100, 97, 114, 121, 61, 34]⟩ ++ B ++ ⟨#[34]⟩)
def lb2 (k id : ByteArray) : List FV := if id.data.toList = [] then [(ba nmType, k)] else [(ba nmType, k)] ++ [(ba nmID, ⟨#[60]⟩ ++ id ++ ⟨#[62]⟩)]
def lb3 (l : List FV) (loc : ByteArray) : List FV := if loc.data.toList = [] then l else l ++ [(ba nmLoc, loc)]
def lb4 (l : List FV) (B H : ByteArray) : List FV := if B.data.toList = [] then l ++ [(ba nmHow, H)] else l
def howB8 (n : Int) : ByteArray := ba (howTx n)
theorem kb_data (p : PT) (B : ByteArray) : (kb2 (kb1 p.ty p.cs) B).data.toList = kindP p B.data.toList := by
 unfold kb2 kb1 kindP
 by_cases h1 : p.cs.data.toList = [] <;> by_cases h2 : B.data.toList = [] <;> simp only [h1, h2, if_true, if_false] <;> simp [txCs, txBd]
theorem lb_fields (p : PT) (B : ByteArray) : (lb4 (lb3 (lb2 (kb2 (kb1 p.ty p.cs) B) p.id) p.loc) B (howB8 p.how)).map fl = fieldsP p B.data.toList := by
 have hk := kb_data p B
 generalize kb2 (kb1 p.ty p.cs) B = K at *
 unfold lb4 lb3 lb2 fieldsP
 rw [← hk]
 have t1 : ∀ x : ByteArray, fl (ba nmType, x) = (nmType, x.data.toList) := fun _ => rfl
 have t2 : fl (ba nmID, ⟨#[60]⟩ ++ p.id ++ ⟨#[62]⟩) = (nmID, [60] ++ p.id.data.toList ++ [62]) := by simp [fl, ba]
 have t3 : fl (ba nmLoc, p.loc) = (nmLoc, p.loc.data.toList) := rfl
 have t4 : fl (ba nmHow, howB8 p.how) = (nmHow, howTx p.how) := rfl
 by_cases h1 : p.id.data.toList = [] <;> by_cases h2 : p.loc.data.toList = [] <;> by_cases h3 : B.data.toList = [] <;> simp only [h1, h2, h3, if_true, if_false, List.map_append, List.map_cons, List.map_nil, t1, t2, t3, t4, List.append_nil]
theorem how_row {w : World} (h : HowTab w) (n : Nat) (hn : n ≤ 2) : w.cell? ⟨0, n, none⟩ = some (.string (howB8 (n : Int))) := by
 obtain ⟨h0, h1, h2⟩ := h
 match n, hn with
 | 0, _ => exact h0
 | 1, _ => exact h1
 | 2, _ => exact h2
theorem head_any (b o F : Nat) (p : PT) (B : ByteArray) (w : World) (hP : PAt w F b o p) (hT : HowTab w) (h0 : 0 ≤ p.how) (h2 : p.how ≤ 2) (hok : textsOk p = true) (hB : BrTok B.data.toList) :
  Calls Tryz.prog 58 #[.pointer (some ⟨b, o, none⟩), .string B] w fun e w' => e = .returned (.string (ba (headP p B.data.toList))) ∧ Below w.heap.size w w' := by
 obtain ⟨pb, cb, pk, ck, hC, -⟩ := hP
 obtain ⟨hn, hhn⟩ : ∃ hn : Nat, p.how = (hn : Int) := ⟨p.how.toNat, by omega⟩
 have hn2 : hn ≤ 2 := by omega
 obtain ⟨ht, hcs, hid, hloc⟩ := texts_ok hok
 have s0 : p.ty.size ≤ 1000 := by rw [Lib.size_eq]; have := (type_facts ht).2.1; omega
 have s1 : p.cs.size ≤ 1000 := by
  rw [Lib.size_eq]
  rcases hcs with e | e
  ·rw [e]; simp
  ·have := (token_facts e).2.1; omega
 have s2 : p.id.size ≤ 1000 := by rw [Lib.size_eq]; have := (word_facts hid).1; omega
 have s3 : B.size ≤ 1000 := by rw [Lib.size_eq]; have := hB.1; omega
 have hchk := fields_check hok hB
 have hfl := lb_fields p B
 rw [← hfl] at hchk
 have hcv := checkV_zero _ hchk
 obtain ⟨c1, c2⟩ := checkF_facts hchk
 have hpr : printV (lb4 (lb3 (lb2 (kb2 (kb1 p.ty p.cs) B) p.id) p.loc) B (howB8 p.how)) = headP p B.data.toList := by
  unfold printV textV headP
  rw [hcv, if_pos rfl, hfl]
 have hL2 : (lb2 (kb2 (kb1 p.ty p.cs) B) p.id).length ≤ 2 := by unfold lb2; split <;> simp
 have hL3 : (lb3 (lb2 (kb2 (kb1 p.ty p.cs) B) p.id) p.loc).length ≤ 3 := by
  unfold lb3
  split
  ·omega
  ·rw [List.length_append, List.length_singleton]; omega
 have hk1 : (kb1 p.ty p.cs).size ≤ 3000 := by
  unfold kb1
  split
  ·omega
  ·rw [ByteArray.size_append, ByteArray.size_append]
   have : (ByteArray.mk #[59, 32, 99, 104, 97, 114, 115, 101, 116, 61]).size = 10 := rfl
   omega
 have hlen : FLen (lb4 (lb3 (lb2 (kb2 (kb1 p.ty p.cs) B) p.id) p.loc) B (howB8 p.how)) := fun f hf => by
  have := List.all_eq_true.1 c2 (fl f) (List.mem_map_of_mem hf)
  rw [okF, Bool.and_eq_true] at this
  have a1 := (token_facts this.1).2.1
  have a2 := (value_facts this.2).1
  unfold fl at a1 a2
  rw [← Lib.size_eq] at a1 a2
  unfold maxLen
  omega
 have CP : Hid (∀ w' (q : Option Addr) (c : Nat), Below w.heap.size w w' → w'.ownsRow w.heap.size 105 2 (.slice q (lb4 (lb3 (lb2 (kb2 (kb1 p.ty p.cs) B) p.id) p.loc) B (howB8 p.how)).length c) (lb4 (lb3 (lb2 (kb2 (kb1 p.ty p.cs) B) p.id) p.loc) B (howB8 p.how)).length (fv (lb4 (lb3 (lb2 (kb2 (kb1 p.ty p.cs) B) p.id) p.loc) B (howB8 p.how))) →
   Calls Tryz.prog 103 #[.slice q (lb4 (lb3 (lb2 (kb2 (kb1 p.ty p.cs) B) p.id) p.loc) B (howB8 p.how)).length c] w' fun e w'' => e = .returned (.tuple #[.string (ba (headP p B.data.toList)), .int .i64 0]) ∧ Below w.heap.size w w'') := fun w' q c hb ho => by
  obtain ⟨q', c', e, h1, h2, _, _, _, hrow⟩ := owned_fields ho
  cases e
  have := hprint_any q _ c _ rfl w' (Nat.le_trans h1 h2) hlen hrow
  rw [hpr, hcv] at this
  exact this.mono fun _ _ h => ⟨h.1, hb.trans (h.2.mono hb.size)⟩
 refine head_walk b o hn p.ty p.cs p.id p.loc B (kb1 p.ty p.cs) (kb2 (kb1 p.ty p.cs) B) (howB8 p.how) (ba (headP p B.data.toList)) _ _ _ 0 w hn2 s0 s1 s2 s3 hk1 hL2 hL3 ?_ ?_ ?_ ?_ ?_ ?_ ?_ CP
 ·intro w' hb
  obtain ⟨a0, a1, a2, a3, a4, _, _⟩ := hC.below hb
  rw [hhn] at a4
  exact ⟨a0, a1, a2, a3, a4⟩
 ·intro w' hb
  rw [hhn]
  exact how_row (hT.below hb) hn hn2
 ·unfold Hid kb1
  by_cases h : p.cs.data.toList = []
  ·rw [if_pos h]; exact .inl ⟨h, rfl⟩
  ·rw [if_neg h]; exact .inr ⟨h, rfl⟩
 ·unfold Hid kb2
  by_cases h : B.data.toList = []
  ·rw [if_pos h]; exact .inl ⟨h, rfl⟩
  ·rw [if_neg h]; exact .inr ⟨h, rfl⟩
 ·unfold Hid lb2
  by_cases h : p.id.data.toList = []
  ·rw [if_pos h]; exact .inl ⟨h, rfl⟩
  ·rw [if_neg h]; exact .inr ⟨h, rfl⟩
 ·unfold Hid lb3
  by_cases h : p.loc.data.toList = []
  ·rw [if_pos h]; exact .inl ⟨h, rfl⟩
  ·rw [if_neg h]; exact .inr ⟨h, rfl⟩
 ·unfold Hid lb4
  by_cases h : B.data.toList = []
  ·rw [if_pos h]; exact .inr ⟨h, rfl⟩
  ·rw [if_neg h]; exact .inl ⟨h, rfl⟩
end Go.Proofs.YtlndhdimamnnlaaGreatDoor



namespace Go.Proofs.YtlndhdimamnnlaaGreatDoor
def mark4 : List UInt8 := [45, 45, 61, 95]
def digC (c : UInt8) : Bool := decide (48 ≤ c.toNat) && decide (c.toNat ≤ 57)
def digsFrom : Nat → List UInt8 → List Nat
 | _, [] => []
 | n, c :: r => if digC c = true then (if 10 * n + (c.toNat - 48) = 0 ∨ 1000000 ≤ 10 * n + (c.toNat - 48) then [] else (10 * n + (c.toNat - 48)) :: digsFrom (10 * n + (c.toNat - 48)) r) else []
def takenGo : Nat → List UInt8 → List Nat
 | 0, _ => []
 | f + 1, s => if (Lib.cut s mark4).2.2 = true then digsFrom 0 (Lib.cut s mark4).2.1 ++ takenGo f (Lib.cut s mark4).2.1 else []
def takenOf (s : List UInt8) : List Nat := takenGo (s.length + 1) s
theorem cut_less (s : List UInt8) (h : (Lib.cut s mark4).2.2 = true) : (Lib.cut s mark4).2.1.length + 1 ≤ s.length := by
 unfold Lib.cut at h ⊢
 by_cases h0 : 0 ≤ Lib.index s mark4
 ·rw [if_pos h0]
  cases s with
  | nil => exact absurd h0 (by decide)
  | cons a l =>
   show (List.drop _ (a :: l)).length + 1 ≤ _
   rw [List.length_drop]
   simp [mark4]
 ·rw [if_neg h0] at h
  cases h
theorem digs_len : ∀ (l : List UInt8) (n : Nat), (digsFrom n l).length ≤ l.length
 | [], n => Nat.le_refl _
 | c :: r, n => by
  rw [digsFrom]
  split
  ·split
   ·simp
   ·have := digs_len r (10 * n + (c.toNat - 48))
    simp
    omega
  ·simp
theorem taken_len : ∀ (f : Nat) (s : List UInt8), (takenGo f s).length ≤ s.length * s.length
 | 0, s => by rw [takenGo]; simp
 | f + 1, s => by
  rw [takenGo]
  split
  ·rename_i h
   have h1 := cut_less s h
   have h2 := digs_len (Lib.cut s mark4).2.1 0
   have h3 := taken_len f (Lib.cut s mark4).2.1
   generalize (Lib.cut s mark4).2.1 = a at *
   rw [List.length_append]
   have h4 : (a.length + 1) * (a.length + 1) ≤ s.length * s.length := Nat.mul_le_mul h1 h1
   rw [Nat.add_mul, Nat.mul_add, Nat.one_mul, Nat.mul_one] at h4
   omega
  ·simp
def stepL (a z : Int) : Int := if z = a then a + 1 else a
def leastScan (zs : List Int) : Int := zs.foldl stepL 1
def sortZ (zs : List Int) : List Int := zs.mergeSort fun x y => decide (x ≤ y)
def leastP (ts : List (List UInt8)) : Int := leastScan (sortZ ((ts.flatMap takenOf).map fun (n : Nat) => (n : Int)))
theorem leastScan_snoc (zs : List Int) (z : Int) : leastScan (zs ++ [z]) = stepL (leastScan zs) z := by simp [leastScan]
theorem fold_le : ∀ (zs : List Int) (a : Int), a ≤ zs.foldl stepL a ∧ zs.foldl stepL a ≤ a + zs.length
 | [], a => by simp
 | z :: zs, a => by
  have h := fold_le zs (stepL a z)
  have h1 : a ≤ stepL a z ∧ stepL a z ≤ a + 1 := by unfold stepL; split <;> omega
  rw [List.foldl_cons, List.length_cons]
  omega
theorem leastScan_le (zs : List Int) : 1 ≤ leastScan zs ∧ leastScan zs ≤ zs.length + 1 := by
 have := fold_le zs 1
 unfold leastScan
 omega
end Go.Proofs.YtlndhdimamnnlaaGreatDoor


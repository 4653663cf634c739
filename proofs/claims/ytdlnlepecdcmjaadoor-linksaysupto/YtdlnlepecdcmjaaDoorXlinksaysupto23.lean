/- Plain functions on lists of bytes: what stands without some bytes at its ends. No program. -/
import Derived.Lib.Strings
import Derived.Test.YtdlnlepecdcmjaaDoorXlinksaysupto2
import Derived.Lib.Bytealg
import Derived.Lib.Replace
namespace Go.Proofs.YtdlnlepecdcmjaaDoor

/-- Without what p says at the end. -/
def dropEnd (p : UInt8 → Bool) (l : List UInt8) : List UInt8 := (l.reverse.dropWhile p).reverse
def trimBy (p : UInt8 → Bool) (l : List UInt8) : List UInt8 := (dropEnd p l).dropWhile p
theorem dropEnd_yes (p : UInt8 → Bool) (x : List UInt8) (c : UInt8) (h : p c = true) : dropEnd p (x ++ [c]) = dropEnd p x := by
  unfold dropEnd; rw [List.reverse_append, List.reverse_singleton, List.singleton_append, List.dropWhile_cons, if_pos h]
theorem dropEnd_no (p : UInt8 → Bool) (x : List UInt8) (c : UInt8) (h : p c = false) : dropEnd p (x ++ [c]) = x ++ [c] := by
  unfold dropEnd; rw [List.reverse_append, List.reverse_singleton, List.singleton_append, List.dropWhile_cons, if_neg (by simp [h])]; simp
theorem dropEnd_length (p : UInt8 → Bool) (l : List UInt8) : (dropEnd p l).length ≤ l.length := by
  unfold dropEnd
  rw [List.length_reverse]
  have := (List.dropWhile_sublist p (l := l.reverse)).length_le
  simpa using this
theorem trimBy_length (p : UInt8 → Bool) (l : List UInt8) : (trimBy p l).length ≤ l.length :=
  Nat.le_trans (List.dropWhile_sublist p).length_le (dropEnd_length p l)

theorem dropEnd_last (p : UInt8 → Bool) (l : List UInt8) (h : ∀ c, l.getLast? = some c → p c = false) : dropEnd p l = l := by
  rcases List.eq_nil_or_concat l with rfl | ⟨x, c, rfl⟩
  · rfl
  · rw [List.concat_eq_append] at h ⊢
    exact dropEnd_no p x c (h c (by simp))
theorem dropWhile_head (p : UInt8 → Bool) (l : List UInt8) (h : ∀ c, l.head? = some c → p c = false) : l.dropWhile p = l := by
  cases l with
  | nil => rfl
  | cons a l => rw [List.dropWhile_cons, if_neg (by simp [h a rfl])]
theorem trimBy_self (p : UInt8 → Bool) (l : List UInt8) (h1 : ∀ c, l.head? = some c → p c = false) (h2 : ∀ c, l.getLast? = some c → p c = false) : trimBy p l = l := by
  rw [trimBy, dropEnd_last p l h2, dropWhile_head p l h1]
theorem trimBy_cons (p : UInt8 → Bool) (d : UInt8) (l : List UInt8) (hd : p d = true) (h1 : ∀ c, l.head? = some c → p c = false) (h2 : ∀ c, l.getLast? = some c → p c = false) : trimBy p (d :: l) = l := by
  cases l with
  | nil => simp [trimBy, dropEnd, hd]
  | cons a l =>
    have e : dropEnd p (d :: a :: l) = d :: a :: l := dropEnd_last p _ (fun c hc => h2 c (by rw [List.getLast?_cons_cons] at hc; exact hc))
    rw [trimBy, e, List.dropWhile_cons, if_pos hd, dropWhile_head p _ h1]
end Go.Proofs.YtdlnlepecdcmjaaDoor

/- Plain functions on lists of bytes: fields read line by line; what is printed is read; what is behind the fields does not matter. No program. -/
namespace Go.Proofs.YtdlnlepecdcmjaaDoor

/-- Ahead of the first d, and behind it. -/
def cutB (d : UInt8) : List UInt8 → Option (List UInt8 × List UInt8)
  | [] => none
  | c :: r => if c = d then some ([], r) else (cutB d r).map fun x => (c :: x.1, x.2)

theorem cutB_some (d : UInt8) : ∀ (l a b : List UInt8), cutB d l = some (a, b) → l = a ++ d :: b ∧ ∀ c ∈ a, c ≠ d
  | [], _, _, h => by cases h
  | c :: r, a, b, h => by
    rw [cutB] at h
    split at h
    · rename_i e; subst e; cases h; exact ⟨rfl, by simp⟩
    · rename_i e
      cases hr : cutB d r with
      | none => rw [hr] at h; cases h
      | some x =>
        obtain ⟨x1, x2⟩ := x
        rw [hr] at h
        cases h
        obtain ⟨h1, h2⟩ := cutB_some d r x1 x2 hr
        refine ⟨by rw [h1]; rfl, ?_⟩
        intro y hy
        rcases List.mem_cons.1 hy with rfl | hy
        · exact e
        · exact h2 y hy
theorem cutB_at (d : UInt8) : ∀ (a b : List UInt8), (∀ c ∈ a, c ≠ d) → cutB d (a ++ d :: b) = some (a, b)
  | [], b, _ => by simp [cutB]
  | c :: a, b, h => by
    rw [List.cons_append, cutB, if_neg (h c (by simp)), cutB_at d a b (fun x hx => h x (by simp [hx]))]
    rfl

/-- Without a return at the end. -/
def noCR (l : List UInt8) : List UInt8 := if l.getLast? = some 13 then l.dropLast else l
def isBT (c : UInt8) : Bool := [32, 9].contains c
def isSp (c : UInt8) : Bool := [32].contains c

/-- A line that isn't empty, behind these fields. -/
def addLine (fs : List Fld) (line : List UInt8) : Except Nat (List Fld) :=
  if (line.head?.map isBT) = some true then
    match fs.getLast? with
    | none => .error 1
    | some f => .ok (fs.dropLast ++ [(f.1, trimBy isSp (f.2 ++ [32] ++ trimBy isBT line))])
  else
    match cutB 58 line with
    | none => .error 1
    | some (n, v) => if 20 < fs.length + 1 then .error 2 else .ok (fs ++ [(n, trimBy isBT v)])

def parseGo : Nat → List UInt8 → Nat → List Fld → List Fld × Nat × Nat
  | 0, _, _, _ => ([], 0, 1)
  | g + 1, r, at_, fs =>
    match cutB 10 r with
    | none => ([], 0, 1)
    | some (a, r') =>
      if noCR a = [] then (if checkF fs = 0 then (fs, at_ + a.length + 1, 0) else ([], 0, checkF fs))
      else match addLine fs (noCR a) with
        | .error e => ([], 0, e)
        | .ok fs' => parseGo g r' (at_ + a.length + 1) fs'
/-- header.Parse: the fields, how much was read, the error's number. -/
def parseF (b : List UInt8) : List Fld × Nat × Nat := if 40000 < b.length then ([], 0, 2) else parseGo (b.length + 1) b 0 []

theorem addLine_err {fs : List Fld} {line : List UInt8} {e : Nat} (h : addLine fs line = .error e) : e ≠ 0 := by
  unfold addLine at h
  split at h
  · split at h
    · cases h; decide
    · cases h
  · split at h
    · cases h; decide
    · split at h
      · cases h; decide
      · cases h

/-- More fuel than bytes is enough. -/
theorem parseGo_fuel : ∀ (g : Nat) (r : List UInt8) (at_ : Nat) (fs : List Fld) (g' : Nat), r.length < g → r.length < g' → parseGo g' r at_ fs = parseGo g r at_ fs
  | 0, r, _, _, _, h, _ => absurd h (Nat.not_lt_zero _)
  | g + 1, r, at_, fs, 0, _, h => absurd h (Nat.not_lt_zero _)
  | g + 1, r, at_, fs, g' + 1, h1, h2 => by
    rw [parseGo, parseGo]
    cases hc : cutB 10 r with
    | none => rfl
    | some x =>
      obtain ⟨a, r'⟩ := x
      have hl : r'.length < r.length := by rw [(cutB_some 10 r a r' hc).1]; simp; omega
      simp only
      split
      · rfl
      · split
        · rfl
        · exact parseGo_fuel g r' _ _ g' (by omega) (by omega)

/-- What is read is read whatever stands behind. -/
theorem parseGo_more : ∀ (g : Nat) (r : List UInt8) (at_ : Nat) (fs l : List Fld) (k : Nat), parseGo g r at_ fs = (l, k, 0) →
    checkF l = 0 ∧ at_ < k ∧ k - at_ ≤ r.length ∧ ∀ (more : List UInt8) (g' : Nat), k - at_ + more.length < g' → parseGo g' (r.take (k - at_) ++ more) at_ fs = (l, k, 0)
  | 0, r, _, _, _, _, h => by rw [parseGo] at h; cases h
  | g + 1, r, at_, fs, l, k, h => by
    rw [parseGo] at h
    cases hc : cutB 10 r with
    | none => rw [hc] at h; cases h
    | some x =>
      obtain ⟨a, r'⟩ := x
      rw [hc] at h
      obtain ⟨hr, ha⟩ := cutB_some 10 r a r' hc
      simp only at h
      by_cases hn : noCR a = []
      · rw [if_pos hn] at h
        by_cases hk : checkF fs = 0
        · rw [if_pos hk] at h
          have h2 := (Prod.mk.inj (Prod.mk.inj h).2).1
          have h1 := (Prod.mk.inj h).1
          clear h
          subst h1
          subst h2
          refine ⟨hk, by omega, by rw [hr]; simp; omega, fun more g' hg => ?_⟩
          have e : r.take (at_ + a.length + 1 - at_) ++ more = a ++ 10 :: more := by
            rw [show at_ + a.length + 1 - at_ = a.length + 1 from by omega, hr, List.take_append, List.take_of_length_le (by omega)]
            simp
          obtain ⟨g'', rfl⟩ : ∃ g'', g' = g'' + 1 := ⟨g' - 1, by omega⟩
          rw [e, parseGo, cutB_at 10 a more ha]
          simp only
          rw [if_pos hn, if_pos hk]
        · rw [if_neg hk] at h
          have := (Prod.mk.inj (Prod.mk.inj h).2).2
          exact absurd this hk
      · rw [if_neg hn] at h
        cases hl : addLine fs (noCR a) with
        | error e =>
          rw [hl] at h
          have := (Prod.mk.inj (Prod.mk.inj h).2).2
          exact absurd this (addLine_err hl)
        | ok fs' =>
          rw [hl] at h
          obtain ⟨i1, i2, i3, i4⟩ := parseGo_more g r' _ fs' l k h
          have hrl : r.length = a.length + 1 + r'.length := by rw [hr]; simp; omega
          refine ⟨i1, by omega, by omega, fun more g' hg => ?_⟩
          obtain ⟨g'', rfl⟩ : ∃ g'', g' = g'' + 1 := ⟨g' - 1, by omega⟩
          have e : r.take (k - at_) ++ more = a ++ 10 :: (r'.take (k - (at_ + a.length + 1)) ++ more) := by
            rw [hr, show k - at_ = a.length + (1 + (k - (at_ + a.length + 1))) from by omega, List.take_append]
            simp [List.take_of_length_le, show a.length + (1 + (k - (at_ + a.length + 1))) - a.length = (k - (at_ + a.length + 1)) + 1 from by omega]
          rw [e, parseGo, cutB_at 10 a _ ha]
          simp only
          rw [if_neg hn, hl]
          exact i4 more g'' (by omega)

theorem inB_at {lo hi : Nat} {but l : List UInt8} (h : betw lo hi but l = true) {c : UInt8} (hc : c ∈ l) : lo ≤ c.toNat ∧ c.toNat ≤ hi ∧ but.contains c = false := by
  have := List.all_eq_true.1 h c hc
  rw [inB, Bool.and_eq_true, Bool.and_eq_true] at this
  exact ⟨of_decide_eq_true this.1.1, of_decide_eq_true this.1.2, by simpa using this.2⟩

theorem token_facts {l : List UInt8} (h : tokenS l = true) : l ≠ [] ∧ l.length ≤ 30 ∧ ∀ c ∈ l, 33 ≤ c.toNat ∧ c.toNat ≤ 126 ∧ specials.contains c = false := by
  rw [tokenS, Bool.and_eq_true, Bool.and_eq_true] at h
  have h1 := of_decide_eq_true h.1.1
  refine ⟨fun e => by rw [e] at h1; simp at h1, of_decide_eq_true h.1.2, fun c hc => inB_at h.2 hc⟩
theorem value_facts {l : List UInt8} (h : valueS l = true) : l.length ≤ 900 ∧ (∀ c ∈ l, 32 ≤ c.toNat ∧ c.toNat ≤ 126) ∧ l.head? ≠ some 32 ∧ l.getLast? ≠ some 32 := by
  rw [valueS, Bool.and_eq_true, Bool.and_eq_true, Bool.and_eq_true] at h
  refine ⟨of_decide_eq_true h.1.1.1, fun c hc => ⟨(inB_at h.1.1.2 hc).1, (inB_at h.1.1.2 hc).2.1⟩, ?_, ?_⟩
  · simpa using h.1.2
  · simpa using h.2

theorem isBT_eq (c : UInt8) : isBT c = true ↔ c = 32 ∨ c = 9 := by simp [isBT]
theorem value_trim {v : List UInt8} (h : valueS v = true) : trimBy isBT (32 :: v) = v := by
  obtain ⟨_, h2, h3, h4⟩ := value_facts h
  have key : ∀ c ∈ v, c ≠ 32 → isBT c = false := by
    intro c hc hne
    rw [← Bool.not_eq_true, isBT_eq]
    rintro (rfl | rfl)
    · exact hne rfl
    · exact absurd (h2 9 hc).1 (by decide)
  refine trimBy_cons isBT 32 v (by rw [isBT_eq]; exact .inl rfl) (fun c hc => key c (List.mem_of_mem_head? hc) (fun e => h3 (by rw [hc, e]))) (fun c hc => key c (List.mem_of_getLast? hc) (fun e => h4 (by rw [hc, e])))

theorem noCR_snoc (l : List UInt8) : noCR (l ++ [13]) = l := by rw [noCR, if_pos (by simp)]; simp

theorem addLine_field (fs : List Fld) (f : Fld) (h : okF f = true) (hl : fs.length < 20) : addLine fs (f.1 ++ [58, 32] ++ f.2) = .ok (fs ++ [f]) := by
  rw [okF, Bool.and_eq_true] at h
  obtain ⟨ht, hv⟩ := h
  obtain ⟨hne, _, hc⟩ := token_facts ht
  obtain ⟨n, v⟩ := f
  simp only at *
  have h1 : ¬ ((n ++ [58, 32] ++ v).head?.map isBT = some true) := by
    cases n with
    | nil => exact absurd rfl hne
    | cons a n =>
      simp only [List.cons_append, List.head?_cons, Option.map_some, Option.some.injEq]
      rw [isBT_eq]
      rintro (rfl | rfl)
      · exact absurd (hc 32 (by simp)).1 (by decide)
      · exact absurd (hc 9 (by simp)).1 (by decide)
  have h2 : cutB 58 (n ++ [58, 32] ++ v) = some (n, 32 :: v) := by
    rw [show n ++ [58, 32] ++ v = n ++ 58 :: (32 :: v) from by simp]
    exact cutB_at 58 n _ (fun c hcn e => by subst e; exact absurd (hc 58 hcn).2.2 (by decide))
  rw [addLine, if_neg h1, h2]
  simp only
  rw [if_neg (by omega), value_trim hv]

theorem lineF_cut (f : Fld) (h : okF f = true) (rest : List UInt8) : cutB 10 (lineF f ++ rest) = some (f.1 ++ [58, 32] ++ f.2 ++ [13], rest) := by
  rw [okF, Bool.and_eq_true] at h
  have ht := token_facts h.1
  have hv := value_facts h.2
  rw [show lineF f ++ rest = (f.1 ++ [58, 32] ++ f.2 ++ [13]) ++ 10 :: rest from by simp [lineF]]
  refine cutB_at 10 _ _ (fun c hc e => ?_)
  subst e
  simp only [List.mem_append, List.mem_cons, List.not_mem_nil, or_false] at hc
  rcases hc with ((hc | hc) | hc) | hc
  · exact absurd (ht.2.2 10 hc).1 (by decide)
  · exact absurd hc (by decide)
  · exact absurd (hv.2.1 10 hc).1 (by decide)
  · exact absurd hc (by decide)

/-- What is printed is read. -/
theorem parseGo_text : ∀ (fs : List Fld) (gs : List Fld) (at_ g : Nat) (more : List UInt8), gs.length + fs.length ≤ 20 → gs.all okF = true → fs.all okF = true → (textF fs ++ more).length < g →
    parseGo g (textF fs ++ more) at_ gs = (gs ++ fs, at_ + (textF fs).length, 0)
  | [], gs, at_, g, more, hl, hg, _, hf => by
    obtain ⟨g', rfl⟩ : ∃ g', g = g' + 1 := ⟨g - 1, by omega⟩
    rw [show textF [] ++ more = [13] ++ 10 :: more from rfl, parseGo, cutB_at 10 [13] more (by simp)]
    simp only
    rw [if_pos (by rfl), if_pos (by rw [checkF, if_neg (by simpa using hl), if_pos hg])]
    simp [textF]
  | f :: fs, gs, at_, g, more, hl, hg, hf, hlt => by
    obtain ⟨g', rfl⟩ : ∃ g', g = g' + 1 := ⟨g - 1, by omega⟩
    rw [List.all_cons, Bool.and_eq_true] at hf
    have e : textF (f :: fs) ++ more = lineF f ++ (textF fs ++ more) := by simp [textF]
    have hlen : (textF (f :: fs)).length = (lineF f).length + (textF fs).length := by simp [textF]
    rw [e] at hlt ⊢
    rw [parseGo, lineF_cut f hf.1]
    simp only
    have hne : ¬ f.1 ++ [58, 32] ++ f.2 = [] := by simp
    rw [noCR_snoc, if_neg hne, addLine_field gs f hf.1 (by simp at hl; omega)]
    simp only
    have hll : (f.1 ++ [58, 32] ++ f.2 ++ [13]).length + 1 = (lineF f).length := by simp [lineF]; omega
    have hl1 : 1 ≤ (lineF f).length := by omega
    rw [parseGo_text fs (gs ++ [f]) _ g' more (by simp at hl ⊢; omega) (by rw [List.all_append, hg]; simp [hf.1]) hf.2 (by rw [List.length_append] at hlt; omega)]
    rw [hlen]
    simp only [List.append_assoc, List.singleton_append, Prod.mk.injEq, true_and, and_true]
    simp only [List.append_assoc] at hll
    omega

theorem checkF_facts {fs : List Fld} (h : checkF fs = 0) : fs.length ≤ 20 ∧ fs.all okF = true := by
  unfold checkF at h
  split at h
  · cases h
  · split at h
    · rename_i h1 h2; exact ⟨by omega, h2⟩
    · cases h
theorem lineF_le (f : Fld) (h : okF f = true) : (lineF f).length ≤ 934 := by
  rw [okF, Bool.and_eq_true] at h
  have h1 := (token_facts h.1).2.1
  have h2 := (value_facts h.2).1
  simp [lineF]
  omega
theorem textF_le : ∀ (fs : List Fld), fs.all okF = true → (textF fs).length ≤ 934 * fs.length + 2
  | [], _ => by simp [textF]
  | f :: fs, h => by
    rw [List.all_cons, Bool.and_eq_true] at h
    have h1 := lineF_le f h.1
    have h2 := textF_le fs h.2
    have hlen : (textF (f :: fs)).length = (lineF f).length + (textF fs).length := by simp [textF]
    rw [hlen, List.length_cons]
    omega

/-- P3.4: what is printed is read, all of it. -/
theorem parseF_text (fs : List Fld) (h : checkF fs = 0) : parseF (textF fs) = (fs, (textF fs).length, 0) := by
  obtain ⟨h1, h2⟩ := checkF_facts h
  have h3 := textF_le fs h2
  rw [parseF, if_neg (by omega)]
  have := parseGo_text fs [] 0 ((textF fs).length + 1) [] (by simpa using h1) rfl h2 (by simp)
  simpa using this

/-- What is behind the fields doesn't matter. -/
theorem parseF_more (b : List UInt8) (l : List Fld) (k : Nat) (h : parseF b = (l, k, 0)) : checkF l = 0 ∧ k ≤ b.length ∧ ∀ more : List UInt8, k + more.length ≤ 40000 → parseF (b.take k ++ more) = (l, k, 0) := by
  unfold parseF at h
  split at h
  · cases h
  · obtain ⟨h1, h2, h3, h4⟩ := parseGo_more _ _ _ _ _ _ h
    rw [Nat.sub_zero] at h3 h4
    refine ⟨h1, h3, fun more hm => ?_⟩
    have hl : (b.take k ++ more).length = k + more.length := by rw [List.length_append, List.length_take]; omega
    rw [parseF, if_neg (by omega)]
    exact h4 more _ (by omega)
end Go.Proofs.YtdlnlepecdcmjaaDoor

/- Plain facts: pieces joined by a mark are split at it, and it can be left out. No program. -/
namespace Go.Proofs.YtdlnlepecdcmjaaDoor

theorem index_sep_none (d : UInt8) (s a : List UInt8) (h : ∀ c ∈ a, c ≠ d) : Lib.index a (d :: s) = -1 := by
  induction a with
  | nil => rfl
  | cons c a ih =>
    have hc : (d == c) = false := by simp; exact fun e => h c (by simp) e.symm
    have := ih (fun e he => h e (by simp [he]))
    simp [Lib.index, List.isPrefixOf, hc, this]
theorem prefix_self (s r : List UInt8) : s.isPrefixOf (s ++ r) = true := by
  rw [List.isPrefixOf_iff_prefix]; exact List.prefix_append s r
theorem index_sep (d : UInt8) (s a r : List UInt8) (h : ∀ c ∈ a, c ≠ d) : Lib.index (a ++ ((d :: s) ++ r)) (d :: s) = (a.length : Int) := by
  induction a with
  | nil =>
    have := prefix_self (d :: s) r
    rw [List.cons_append] at this
    rw [List.nil_append, List.cons_append, Lib.index, if_pos this]
    rfl
  | cons c a ih =>
    have hc : (d == c) = false := by simp; exact fun e => h c (by simp) e.symm
    have hi := ih (fun e he => h e (by simp [he]))
    rw [List.cons_append, Lib.index]
    have hp : (d :: s).isPrefixOf (c :: (a ++ ((d :: s) ++ r))) = false := by simp [List.isPrefixOf, hc]
    rw [hp, hi]
    simp only [Bool.false_eq_true, if_false]
    rw [if_neg (by simp)]
    simp
theorem drop_sep (s a r : List UInt8) : (a ++ (s ++ r)).drop (a.length + s.length) = r := by
  rw [show a.length + s.length = (a ++ s).length from by simp, ← List.append_assoc, List.drop_left]
theorem count_sep (d : UInt8) (s a r : List UInt8) (h : ∀ c ∈ a, c ≠ d) : Lib.count (a ++ ((d :: s) ++ r)) (d :: s) = Lib.count r (d :: s) + 1 := by
  rw [Lib.count_hit (by simp) (index_sep d s a r h), drop_sep, Nat.add_comm]

/-- Pieces, with a mark between. -/
def joinG (s : List UInt8) : List UInt8 → List (List UInt8) → List UInt8
  | a, [] => a
  | a, b :: t => a ++ (s ++ joinG s b t)

theorem split_join (d : UInt8) (s : List UInt8) : ∀ (t : List (List UInt8)) (a : List UInt8), (∀ x ∈ a :: t, ∀ c ∈ x, c ≠ d) →
    Lib.splitK (d :: s) 0 (Lib.count (joinG (d :: s) a t) (d :: s)) (joinG (d :: s) a t) = a :: t := by
  intro t
  induction t with
  | nil => intro a h; rw [joinG, Lib.count_miss (index_sep_none d s a (h a (by simp)))]; rfl
  | cons b t ih =>
    intro a h
    have ha := h a (by simp)
    rw [joinG, count_sep d s a _ ha, Lib.splitK, index_sep d s a _ ha, if_neg (by simp), Int.toNat_natCast, drop_sep, ih b (fun x hx => h x (by simp at hx ⊢; right; exact hx)), Nat.add_zero, List.take_left]
theorem replace_join (d : UInt8) (s n : List UInt8) : ∀ (t : List (List UInt8)) (a : List UInt8), (∀ x ∈ a :: t, ∀ c ∈ x, c ≠ d) →
    Lib.replaceK (d :: s) n (Lib.count (joinG (d :: s) a t) (d :: s)) (joinG (d :: s) a t) = joinG n a t := by
  intro t
  induction t with
  | nil => intro a h; rw [joinG, Lib.count_miss (index_sep_none d s a (h a (by simp)))]; rfl
  | cons b t ih =>
    intro a h
    have ha := h a (by simp)
    rw [joinG, count_sep d s a _ ha, Lib.replaceK_hit _ _ _ _ a.length (index_sep d s a _ ha), drop_sep, ih b (fun x hx => h x (by simp at hx ⊢; right; exact hx)), List.take_left, joinG]
    simp
theorem joinG_nil : ∀ (t : List (List UInt8)) (a : List UInt8), joinG [] a t = (a :: t).flatten := by
  intro t
  induction t with
  | nil => intro a; simp [joinG]
  | cons b t ih => intro a; rw [joinG, ih b]; simp

end Go.Proofs.YtdlnlepecdcmjaaDoor

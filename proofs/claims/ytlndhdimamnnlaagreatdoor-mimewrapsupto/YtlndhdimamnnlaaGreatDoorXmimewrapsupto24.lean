/- Plain functions on lists of bytes: what is put behind a value as a parameter is taken apart as it was. No program. -/
import Derived.Test.YtlndhdimamnnlaaGreatDoorXmimewrapsupto1
import Derived.Lib.Fold
namespace Go.Proofs.YtlndhdimamnnlaaGreatDoor

/-- A parameter that is put behind: as a token, or between quotes with so many blanks behind it. -/
structure Seg where
  n : List UInt8
  v : List UInt8
  q : Option Nat
abbrev Seg.tok (n v : List UInt8) : Seg := ⟨n, v, none⟩
abbrev Seg.quo (n v : List UInt8) (k : Nat) : Seg := ⟨n, v, some k⟩
def blanks (k : Nat) : List UInt8 := List.replicate k 32
def Seg.pre (g : Seg) : List UInt8 := match g.q with | none => [32] | some _ => []
def Seg.body (g : Seg) : List UInt8 := match g.q with | none => 32 :: (g.n ++ 61 :: 32 :: g.v) | some k => g.n ++ 32 :: 61 :: 34 :: (g.v ++ 34 :: blanks k)
def Seg.fld (g : Seg) : Fld := (small8 g.n, g.v)
def Seg.ok (g : Seg) : Prop := match g.q with | none => tokenS g.n = true ∧ tokenS g.v = true | some _ => tokenS g.n = true ∧ g.v.contains 34 = false
def Seg.text (g : Seg) : List UInt8 := g.pre ++ 59 :: g.body
def tx (l : List Seg) : List UInt8 := l.flatMap Seg.text
theorem tx_cons (g : Seg) (l : List Seg) : tx (g :: l) = g.pre ++ 59 :: (g.body ++ tx l) := by simp [tx, Seg.text]
theorem tx_snoc (l : List Seg) (g : Seg) : tx (l ++ [g]) = tx l ++ g.text := by simp [tx]

theorem cutB_off (d : UInt8) : ∀ l : List UInt8, (∀ c ∈ l, c ≠ d) → cutB d l = none
  | [], _ => rfl
  | c :: r, h => by rw [cutB, if_neg (h c (by simp)), cutB_off d r (fun x hx => h x (by simp [hx]))]; rfl

theorem tok_no {n : List UInt8} (h : tokenS n = true) (d : UInt8) (hd : specials.contains d = true ∨ d = 32) : ∀ c ∈ n, c ≠ d := by
  intro c hc e
  subst e
  have := (token_facts h).2.2 c hc
  rcases hd with hd | hd
  · rw [this.2.2] at hd; cases hd
  · subst hd; exact absurd this.1 (by decide)
theorem tok_sp {n : List UInt8} (h : tokenS n = true) : ∀ c ∈ n, isSp c = false := by
  intro c hc
  have := tok_no h 32 (.inr rfl) c hc
  simp [isSp, this]
theorem tok_head {n : List UInt8} (h : tokenS n = true) (m : List UInt8) : ∀ c, (n ++ m).head? = some c → c ∈ n := by
  intro c hc
  cases n with
  | nil => exact absurd rfl (token_facts h).1
  | cons a n => simp at hc; subst hc; simp

theorem isSp_blanks (k : Nat) : ∀ c ∈ blanks k, isSp c = true := by
  intro c hc
  rw [blanks, List.mem_replicate] at hc
  rw [hc.2]; rfl
theorem dropWhile_all (p : UInt8 → Bool) : ∀ l : List UInt8, (∀ c ∈ l, p c = true) → l.dropWhile p = []
  | [], _ => rfl
  | c :: l, h => by rw [List.dropWhile_cons, if_pos (h c (by simp)), dropWhile_all p l (fun x hx => h x (by simp [hx]))]
theorem dropEnd_all (p : UInt8 → Bool) (l : List UInt8) (h : ∀ c ∈ l, p c = true) : dropEnd p l = [] := by
  rw [dropEnd, dropWhile_all p _ (fun c hc => h c (by simpa using hc))]; rfl
theorem dropEnd_app (p : UInt8 → Bool) (x l : List UInt8) (h : ∀ c ∈ l, p c = true) : dropEnd p (x ++ l) = dropEnd p x := by
  rw [dropEnd, List.reverse_append, dropEnd, List.dropWhile_append, dropWhile_all p _ (fun c hc => h c (by simpa using hc))]
  simp
theorem dropEnd_keep (p : UInt8 → Bool) (x l : List UInt8) (hl : l ≠ []) (h : ∀ c ∈ l, p c = false) : dropEnd p (x ++ l) = x ++ l := by
  refine dropEnd_last p _ (fun c hc => h c ?_)
  rcases List.eq_nil_or_concat l with rfl | ⟨y, d, rfl⟩
  · exact absurd rfl hl
  · rw [List.concat_eq_append, ← List.append_assoc, List.getLast?_append] at hc
    simp at hc
    subst hc
    simp

theorem pre_sp (g : Seg) : ∀ c ∈ g.pre, isSp c = true := by
  obtain ⟨n, v, q⟩ := g
  cases q with
  | none => intro c hc; simp [Seg.pre] at hc; subst hc; rfl
  | some k => intro c hc; simp [Seg.pre] at hc
theorem pre_no59 (g : Seg) : ∀ c ∈ g.pre, c ≠ 59 := by
  obtain ⟨n, v, q⟩ := g
  cases q with
  | none => intro c hc; simp [Seg.pre] at hc; subst hc; decide
  | some k => intro c hc; simp [Seg.pre] at hc

/-- What stands ahead of the next ;, behind x. -/
theorem cut_tx (x : List UInt8) (hx : ∀ c ∈ x, c ≠ 59) (l : List Seg) : cutP 59 (x ++ tx l) = (match l with | [] => (x, [], false) | g :: r => (x ++ g.pre, g.body ++ tx r, true)) := by
  cases l with
  | nil =>
    rw [show tx [] = [] from rfl, List.append_nil]
    exact cutP_none (cutB_off 59 x hx)
  | cons g r =>
    rw [tx_cons, ← List.append_assoc]
    refine cutP_some (cutB_at 59 _ _ (fun c hc => ?_))
    rcases List.mem_append.1 hc with h | h
    · exact hx c h
    · exact pre_no59 g c h
def nextOf : List Seg → List UInt8
  | [] => []
  | g :: r => g.body ++ tx r
def moreOf : List Seg → Bool
  | [] => false
  | _ :: _ => true
def preOf : List Seg → List UInt8
  | [] => []
  | g :: _ => g.pre
theorem cut_tx' (x : List UInt8) (hx : ∀ c ∈ x, c ≠ 59) (l : List Seg) : cutP 59 (x ++ tx l) = (x ++ preOf l, nextOf l, moreOf l) := by
  rw [cut_tx x hx l]
  cases l with
  | nil => simp [preOf, nextOf, moreOf]
  | cons g r => rfl
theorem preOf_sp (l : List Seg) : ∀ c ∈ preOf l, isSp c = true := by
  cases l with
  | nil => intro c hc; cases hc
  | cons g r => exact pre_sp g

theorem trim_pre (n x : List UInt8) (h : tokenS n = true) (hx : ∀ c ∈ x, isSp c = true) : trimBy isSp (n ++ x) = n := by
  have hn := tok_sp h
  rw [trimBy, dropEnd_app isSp n x hx, dropEnd_last isSp n (fun c hc => hn c (List.mem_of_getLast? hc)), dropWhile_head isSp n (fun c hc => hn c (List.mem_of_mem_head? hc))]

/-- One parameter is taken apart. -/
theorem seg_read (g : Seg) (h : g.ok) (l : List Seg) : paramOk (g.body ++ tx l) = true ∧ paramFld (g.body ++ tx l) = g.fld ∧ (restS (g.body ++ tx l)).2.1 = nextOf l ∧ (restS (g.body ++ tx l)).2.2.1 = moreOf l := by
  obtain ⟨n, v, q⟩ := g
  cases q with
  | none =>
    obtain ⟨hn, hv⟩ : tokenS n = true ∧ tokenS v = true := h
    have e1 : cutP 61 (Seg.body (.tok n v) ++ tx l) = (32 :: n, 32 :: (v ++ tx l), true) := by
      refine cutP_some ?_
      have : Seg.body (.tok n v) ++ tx l = (32 :: n) ++ 61 :: (32 :: (v ++ tx l)) := by simp [Seg.body]
      rw [this]
      refine cutB_at 61 _ _ (fun c hc => ?_)
      rcases List.mem_cons.1 hc with rfl | hc
      · decide
      · exact tok_no hn 61 (.inl (by decide)) c hc
    have e2 : nameS (Seg.body (.tok n v) ++ tx l) = n := by
      rw [nameS, e1]
      exact trimBy_cons isSp 32 n rfl (fun c hc => tok_sp hn c (List.mem_of_mem_head? hc)) (fun c hc => tok_sp hn c (List.mem_of_getLast? hc))
    have e3 : restS (Seg.body (.tok n v) ++ tx l) = (v, nextOf l, moreOf l, true) := by
      rw [restS, e1]
      simp only
      rw [List.dropWhile_cons, if_pos (by rfl), dropWhile_head isSp _ (fun c hc => tok_sp hv c (tok_head hv _ c hc))]
      rw [setS, if_neg (fun hh => tok_no hv 34 (.inl (by decide)) 34 (tok_head hv _ 34 hh) rfl), cut_tx' v (tok_no hv 59 (.inl (by decide))) l]
      simp only
      rw [dropEnd_app isSp v _ (preOf_sp l), dropEnd_last isSp v (fun c hc => tok_sp hv c (List.mem_of_getLast? hc)), hv]
    refine ⟨?_, ?_, by rw [e3], by rw [e3]⟩
    · rw [paramOk, nameOk, e1, e2, e3, hn]; rfl
    · rw [paramFld, e2, e3]; rfl
  | some k =>
    obtain ⟨hn, hv⟩ : tokenS n = true ∧ v.contains 34 = false := h
    have hv' : ∀ c ∈ v, c ≠ 34 := by
      intro c hc e
      subst e
      rw [← Bool.not_eq_true] at hv
      exact hv (by simpa using hc)
    have e1 : cutP 61 (Seg.body (.quo n v k) ++ tx l) = (n ++ [32], 34 :: (v ++ 34 :: (blanks k ++ tx l)), true) := by
      refine cutP_some ?_
      have : Seg.body (.quo n v k) ++ tx l = (n ++ [32]) ++ 61 :: (34 :: (v ++ 34 :: (blanks k ++ tx l))) := by simp [Seg.body]
      rw [this]
      refine cutB_at 61 _ _ (fun c hc => ?_)
      rcases List.mem_append.1 hc with hc | hc
      · exact tok_no hn 61 (.inl (by decide)) c hc
      · simp at hc; subst hc; decide
    have e2 : nameS (Seg.body (.quo n v k) ++ tx l) = n := by
      rw [nameS, e1]
      exact trim_pre n [32] hn (by intro c hc; simp at hc; subst hc; rfl)
    have e3 : restS (Seg.body (.quo n v k) ++ tx l) = (v, nextOf l, moreOf l, true) := by
      rw [restS, e1]
      simp only
      rw [List.dropWhile_cons, if_neg (by decide), setS, if_pos (by rfl)]
      simp only [List.tail_cons]
      rw [cutP_some (cutB_at 34 v _ hv')]
      simp only
      rw [cut_tx' (blanks k) (fun c hc e => by rw [blanks, List.mem_replicate] at hc; rw [hc.2] at e; exact absurd e (by decide)) l]
      simp only
      have : trimBy isSp (blanks k ++ preOf l) = [] := by
        rw [trimBy, dropEnd_all isSp _ (fun c hc => by rcases List.mem_append.1 hc with h | h; exact isSp_blanks k c h; exact preOf_sp l c h)]
        rfl
      rw [this]
      rfl
    refine ⟨?_, ?_, by rw [e3], by rw [e3]⟩
    · rw [paramOk, nameOk, e1, e2, e3, hn]; rfl
    · rw [paramFld, e2, e3]; rfl

theorem params_go : ∀ (l : List Seg) (g : Nat) (fs : List Fld), (∀ s ∈ l, s.ok) → l.length < g → fs.length + l.length ≤ 20 → paramsGo g (nextOf l) (moreOf l) fs = .ok (fs ++ l.map Seg.fld)
  | [], g, fs, _, hg, _ => by
    obtain ⟨g', rfl⟩ : ∃ g', g = g' + 1 := ⟨g - 1, by omega⟩
    rw [moreOf, paramsGo, if_neg (by simp)]
    simp
  | s :: l, g, fs, ho, hg, hl => by
    obtain ⟨g', rfl⟩ : ∃ g', g = g' + 1 := ⟨g - 1, by omega⟩
    obtain ⟨h1, h2, h3, h4⟩ := seg_read s (ho s (by simp)) l
    rw [List.length_cons] at hg hl
    rw [moreOf, nextOf, paramsGo, if_pos rfl, if_pos h1, if_neg (by omega), h2, h3, h4, params_go l g' _ (fun x hx => ho x (by simp [hx])) (by omega) (by rw [List.length_append, List.length_singleton]; omega)]
    simp

/-- All of it. -/
theorem params_all (m : List UInt8) (hm : tokenS m = true) (l : List Seg) (ho : ∀ s ∈ l, s.ok) (hl : l.length ≤ 20) (hv : valueS (m ++ tx l) = true) : paramsF (m ++ tx l) = (small8 m, l.map Seg.fld, 0) := by
  rw [paramsF, if_pos hv, cut_tx' m (tok_no hm 59 (.inl (by decide))) l]
  simp only
  have hlen : l.length ≤ (m ++ tx l).length := by
    have : ∀ l : List Seg, l.length ≤ (tx l).length := by
      intro l
      induction l with
      | nil => simp
      | cons g r ih => rw [tx_cons]; simp; omega
    have := this l
    rw [List.length_append]; omega
  rw [params_go l _ [] ho (by omega) (by simpa using hl), trim_pre m _ hm (preOf_sp l)]
  simp [outP]

/-- The blanks at the end are left out. -/
theorem dropEnd_tx (m : List UInt8) (hm : tokenS m = true) (l : List Seg) (ho : ∀ s ∈ l, s.ok) : ∃ l' : List Seg, dropEnd isSp (m ++ tx l) = m ++ tx l' ∧ (∀ s ∈ l', s.ok) ∧ l'.length = l.length ∧ l'.map Seg.fld = l.map Seg.fld := by
  rcases List.eq_nil_or_concat l with rfl | ⟨l0, g, rfl⟩
  · refine ⟨[], ?_, ho, rfl, rfl⟩
    rw [show tx [] = [] from rfl, List.append_nil]
    exact dropEnd_last isSp m (fun c hc => tok_sp hm c (List.mem_of_getLast? hc))
  · rw [List.concat_eq_append] at ho ⊢
    obtain ⟨n, v, q⟩ := g
    cases q with
    | none =>
      refine ⟨l0 ++ [.tok n v], ?_, ho, rfl, rfl⟩
      have hv : tokenS v = true := (show tokenS n = true ∧ tokenS v = true from ho (.tok n v) (by simp)).2
      have e : m ++ tx (l0 ++ [.tok n v]) = (m ++ tx l0 ++ [32, 59, 32] ++ n ++ [61, 32]) ++ v := by rw [tx_snoc]; simp [Seg.text, Seg.pre, Seg.body]
      rw [e]
      exact dropEnd_keep isSp _ v (token_facts hv).1 (tok_sp hv)
    | some k =>
      have hv : tokenS n = true ∧ v.contains 34 = false := ho (.quo n v k) (by simp)
      refine ⟨l0 ++ [.quo n v 0], ?_, ?_, by simp, by simp [Seg.fld]⟩
      · have e : m ++ tx (l0 ++ [.quo n v k]) = (m ++ tx l0 ++ [59] ++ n ++ [32, 61, 34] ++ v ++ [34]) ++ blanks k := by rw [tx_snoc]; simp [Seg.text, Seg.pre, Seg.body]
        have e' : m ++ tx (l0 ++ [.quo n v 0]) = (m ++ tx l0 ++ [59] ++ n ++ [32, 61, 34] ++ v) ++ [34] := by rw [tx_snoc]; simp [Seg.text, Seg.pre, Seg.body, blanks]
        rw [e, e', dropEnd_app isSp _ _ (isSp_blanks k)]
        exact dropEnd_keep isSp _ [34] (by simp) (by intro c hc; simp at hc; subst hc; rfl)
      · intro s hs
        rcases List.mem_append.1 hs with h | h
        · exact ho s (by simp [h])
        · simp at h; subst h; exact hv
end Go.Proofs.YtlndhdimamnnlaaGreatDoor

/- Plain facts on bytes: texts that are the same but for large and small letters. No program. -/
namespace Go.Proofs.YtlndhdimamnnlaaGreatDoor

theorem lower_num8 (c : UInt8) : (Lib.lowerB c).toNat = if 65 ≤ c.toNat ∧ c.toNat ≤ 90 then c.toNat + 32 else c.toNat := by
  have : ∀ n : Fin 256, (Lib.lowerB (UInt8.ofNat n.val)).toNat = if 65 ≤ n.val ∧ n.val ≤ 90 then n.val + 32 else n.val := by decide +kernel
  have h := this ⟨c.toNat, c.toNat_lt⟩
  rwa [show UInt8.ofNat c.toNat = c from UInt8.ofNat_toNat] at h
theorem low_up (c : UInt8) : Lib.lowerB (Lib.upperB c) = Lib.lowerB c := by
  have : ∀ n : Fin 256, Lib.lowerB (Lib.upperB (UInt8.ofNat n.val)) = Lib.lowerB (UInt8.ofNat n.val) := by decide +kernel
  have h := this ⟨c.toNat, c.toNat_lt⟩
  rwa [show UInt8.ofNat c.toNat = c from UInt8.ofNat_toNat] at h
theorem low_low (c : UInt8) : Lib.lowerB (Lib.lowerB c) = Lib.lowerB c := by
  have : ∀ n : Fin 256, Lib.lowerB (Lib.lowerB (UInt8.ofNat n.val)) = Lib.lowerB (UInt8.ofNat n.val) := by decide +kernel
  have h := this ⟨c.toNat, c.toNat_lt⟩
  rwa [show UInt8.ofNat c.toNat = c from UInt8.ofNat_toNat] at h
theorem ascii_up (c : UInt8) (h : c.toNat < 128) : (Lib.upperB c).toNat < 128 := by
  have : ∀ n : Fin 256, n.val < 128 → (Lib.upperB (UInt8.ofNat n.val)).toNat < 128 := by decide +kernel
  have h := this ⟨c.toNat, c.toNat_lt⟩ h
  rwa [show UInt8.ofNat c.toNat = c from UInt8.ofNat_toNat] at h
theorem ascii_low (c : UInt8) (h : c.toNat < 128) : (Lib.lowerB c).toNat < 128 := by
  rw [lower_num8]; split <;> omega

theorem foldEq_low (x y : UInt8) : Lib.foldEq x y = decide (Lib.lowerB x = Lib.lowerB y) := by
  have hx := lower_num8 x
  have hy := lower_num8 y
  unfold Lib.foldEq
  rw [Bool.eq_iff_iff, decide_eq_true_iff, decide_eq_true_iff]
  constructor
  · intro h
    apply UInt8.toNat_inj.1
    rw [hx, hy]
    split <;> split <;> omega
  · intro h
    have h' := congrArg UInt8.toNat h
    rw [hx, hy] at h'
    split at h' <;> split at h' <;> omega
theorem fold_low : ∀ s t : List UInt8, Lib.equalFold s t = decide (s.map Lib.lowerB = t.map Lib.lowerB)
  | [], [] => rfl
  | [], y :: t => by simp [Lib.equalFold]
  | x :: s, [] => by simp [Lib.equalFold]
  | x :: s, y :: t => by
    rw [Lib.equalFold, fold_low s t, foldEq_low]
    simp [Bool.decide_and]

theorem map_up (s : List UInt8) : (Lib.toUpperA s).map Lib.lowerB = s.map Lib.lowerB := by
  unfold Lib.toUpperA; rw [List.map_map]; congr 1; funext c; exact low_up c
theorem map_low (s : List UInt8) : (Lib.toLowerA s).map Lib.lowerB = s.map Lib.lowerB := by
  unfold Lib.toLowerA; rw [List.map_map]; congr 1; funext c; exact low_low c
/-- Asked for in large letters, in small letters, it is the same. -/
theorem fold_up (s t : List UInt8) : Lib.equalFold s (Lib.toUpperA t) = Lib.equalFold s t := by rw [fold_low, fold_low, map_up]
theorem fold_down (s t : List UInt8) : Lib.equalFold s (Lib.toLowerA t) = Lib.equalFold s t := by rw [fold_low, fold_low, map_low]
theorem fold_self (s : List UInt8) : Lib.equalFold s s = true := by rw [fold_low]; simp
theorem ascii_upA (s : List UInt8) (h : ∀ c ∈ s, c.toNat < 128) : ∀ c ∈ Lib.toUpperA s, c.toNat < 128 := by
  intro c hc
  obtain ⟨d, hd, rfl⟩ := List.mem_map.1 hc
  exact ascii_up d (h d hd)
theorem ascii_lowA (s : List UInt8) (h : ∀ c ∈ s, c.toNat < 128) : ∀ c ∈ Lib.toLowerA s, c.toNat < 128 := by
  intro c hc
  obtain ⟨d, hd, rfl⟩ := List.mem_map.1 hc
  exact ascii_low d (h d hd)
end Go.Proofs.YtlndhdimamnnlaaGreatDoor

/- Plain facts: what stands between borders, where no line is one, is what was put there. No program. -/
import Derived.Test.YtlndhdimamnnlaaGreatDoorXmimewrapsupto1
import Derived.Test.YtlndhdimamnnlaaGreatDoorXmimewrapsupto2
namespace Go.Proofs.YtlndhdimamnnlaaGreatDoor

def crlf2 : List UInt8 := [13, 10]
/-- A text behind its border. -/
def pieceT (br t : List UInt8) : List UInt8 := dd ++ br ++ crlf2 ++ (t ++ crlf2)
def lastT (br : List UInt8) : List UInt8 := dd ++ br ++ dd ++ crlf2

theorem lineN_at : ∀ (a r : List UInt8), (∀ c ∈ a, c ≠ 10) → lineN (a ++ 10 :: r) = a.length + 1
  | [], r, _ => by rw [List.nil_append, lineN, if_pos rfl]; rfl
  | c :: a, r, h => by
    rw [List.cons_append, lineN, if_neg (h c (by simp)), lineN_at a r (fun x hx => h x (by simp [hx]))]
    rfl
theorem take10_at (a r : List UInt8) : (a ++ 10 :: r).take (a.length + 1) = a ++ [10] := by
  rw [show a ++ 10 :: r = (a ++ [10]) ++ r from by simp]
  exact List.take_left' (by simp)
theorem drop10_at (a r : List UInt8) : (a ++ 10 :: r).drop (a.length + 1) = r := by
  rw [show a ++ 10 :: r = (a ++ [10]) ++ r from by simp]
  exact List.drop_left' (by simp)
theorem dropEnd_pre (p : UInt8 → Bool) (l : List UInt8) : ∃ t, l = dropEnd p l ++ t := by
  unfold dropEnd
  have h := List.takeWhile_append_dropWhile (p := p) (l := l.reverse)
  refine ⟨(l.reverse.takeWhile p).reverse, ?_⟩
  rw [← List.reverse_append, h, List.reverse_reverse]
/-- A line that is a border's has it in it. -/
theorem bare_infix (l br e : List UInt8) (h : bareL l = dd ++ br ++ e) : dd ++ br <:+: l := by
  obtain ⟨t, ht⟩ := dropEnd_pre endC l
  unfold bareL at h
  rw [h] at ht
  exact ⟨[], e ++ t, by rw [ht]; simp⟩
theorem mem10 : ∀ (x : List UInt8), 10 ∈ x → ∃ a r, x = a ++ 10 :: r ∧ ∀ c ∈ a, c ≠ 10
  | [], h => by simp at h
  | c :: x, h => by
    by_cases e : c = 10
    · exact ⟨[], x, by rw [e]; rfl, by simp⟩
    · obtain ⟨a, r, h1, h2⟩ := mem10 x (by rcases List.mem_cons.1 h with h | h; exact absurd h.symm e; exact h)
      refine ⟨c :: a, r, by rw [h1]; rfl, fun y hy => ?_⟩
      rcases List.mem_cons.1 hy with rfl | hy
      · exact e
      · exact h2 y hy

/-- Lines that are no borders are taken as they are. -/
theorem split_over (br : List UInt8) (more : List UInt8) (out : List (List UInt8)) : ∀ (n : Nat) (x : List UInt8) (cur : Option (List UInt8)) (f : Nat), x.length ≤ n → (x = [] ∨ x.getLast? = some 10) → ¬ (dd ++ br) <:+: x → (x ++ more).length < f →
    ∃ f', more.length < f' ∧ splitGo br f (x ++ more) cur out = splitGo br f' more (cur.map (· ++ x)) out
  | n, [], cur, f, _, _, _, hf => ⟨f, hf, by
      have : cur.map (· ++ ([] : List UInt8)) = cur := by cases cur <;> simp
      rw [this]; rfl⟩
  | 0, c :: x, cur, f, h, _, _, _ => absurd h (by simp)
  | n + 1, c :: x, cur, f, hn, hl, hno, hf => by
    have hl : (c :: x).getLast? = some 10 := by rcases hl with h | h; exact absurd h (by simp); exact h
    obtain ⟨a, r, e, ha⟩ := mem10 (c :: x) (List.mem_of_getLast? hl)
    rw [e] at hn hl hno hf ⊢
    clear e
    obtain ⟨f', rfl⟩ : ∃ f', f = f' + 1 := ⟨f - 1, by omega⟩
    have ee : a ++ 10 :: r ++ more = a ++ 10 :: (r ++ more) := by simp
    have hln : lineN (a ++ 10 :: (r ++ more)) = a.length + 1 := lineN_at a _ ha
    have htk := take10_at a (r ++ more)
    have hdr := drop10_at a (r ++ more)
    have hin : a ++ [10] <:+: a ++ 10 :: r := ⟨[], r, by simp⟩
    have hb1 : ¬ bareL (a ++ [10]) = dd ++ br ++ dd := fun h => hno ((bare_infix _ _ _ h).trans hin)
    have hb2 : ¬ bareL (a ++ [10]) = dd ++ br := fun h => hno ((bare_infix _ br [] (by rw [List.append_nil]; exact h)).trans hin)
    have hr : r = [] ∨ r.getLast? = some 10 := by
      cases r with
      | nil => exact .inl rfl
      | cons d r =>
        right
        rw [List.getLast?_append] at hl
        simpa using hl
    obtain ⟨f2, hf2, h2⟩ := split_over br more out n r (cur.map (· ++ (a ++ [10]))) f' (by rw [List.length_append, List.length_cons] at hn; omega) hr (fun h => hno (h.trans ⟨a ++ [10], [], by simp⟩)) (by rw [ee] at hf; rw [List.length_append, List.length_cons] at hf; omega)
    refine ⟨f2, hf2, ?_⟩
    rw [ee, splitGo, if_neg (by simp), hln, htk, hdr, if_neg hb1, if_neg hb2, h2]
    congr 1
    cases cur with
    | none => rfl
    | some z => simp

theorem strip_crlf (t : List UInt8) : stripE (t ++ crlf2) = t := by
  unfold stripE noEnd crlf2
  have e : t ++ [13, 10] = (t ++ [13]) ++ [10] := by simp
  rw [e, if_pos (by simp), List.dropLast_concat, if_pos (by simp), List.dropLast_concat]
theorem bare_end (a : List UInt8) (h : ∀ c, a.getLast? = some c → endC c = false) : bareL (a ++ crlf2) = a := by
  unfold bareL crlf2
  rw [show a ++ [13, 10] = (a ++ [13]) ++ [10] from by simp, dropEnd_yes _ _ _ (by decide), dropEnd_yes _ _ _ (by decide), dropEnd_last _ _ h]

/-- What a border may be made of. -/
def BrOk (br : List UInt8) : Prop := br ≠ [] ∧ ∀ c ∈ br, endC c = false
theorem br_no10 {br : List UInt8} (h : BrOk br) : ∀ c ∈ br, c ≠ 10 := fun c hc e => by
  have := h.2 c hc
  rw [e] at this
  exact absurd this (by decide)
theorem no_infix {br : List UInt8} (h : BrOk br) (t : List UInt8) (hno : ¬ (dd ++ br) <:+: t) : ¬ (dd ++ br) <:+: t ++ crlf2 := by
  obtain ⟨y, c, rfl⟩ : ∃ y c, br = y ++ [c] := by
    rcases List.eq_nil_or_concat br with e | ⟨y, c, e⟩
    · exact absurd e h.1
    · exact ⟨y, c, by rw [e, List.concat_eq_append]⟩
  have hc := h.2 c (by simp)
  have key : ∀ (d : UInt8) (l : List UInt8), endC d = true → ¬ (dd ++ (y ++ [c])) <:+: l → ¬ (dd ++ (y ++ [c])) <:+: l ++ [d] := by
    intro d l hd hl hi
    rw [List.infix_concat_iff, List.suffix_concat_iff] at hi
    rcases hi with (hi | ⟨t, h1, _⟩) | hi
    · simp [dd] at hi
    · have h2 := congrArg List.getLast? h1
      rw [← List.append_assoc] at h2
      simp at h2
      rw [h2, hd] at hc
      cases hc
    · exact hl hi
  unfold crlf2
  rw [show t ++ [13, 10] = (t ++ [13]) ++ [10] from by simp]
  exact key 10 _ (by decide) (key 13 _ (by decide) hno)

/-- The lines with borders. -/
theorem splitM_last (br behind : List UInt8) (h : BrOk br) (f : Nat) (cur : Option (List UInt8)) (out : List (List UInt8)) : splitGo br (f + 1) (lastT br ++ behind) cur out = some (closed cur out) := by
  have e : lastT br ++ behind = (dd ++ br ++ dd ++ [13]) ++ 10 :: behind := by simp [lastT, crlf2]
  have hno : ∀ c ∈ dd ++ br ++ dd ++ [13], c ≠ 10 := by
    intro c hc
    simp only [dd, List.mem_append, List.mem_cons, List.not_mem_nil, or_false] at hc
    rcases hc with ((hc | hc) | hc) | hc
    · rcases hc with rfl | rfl <;> decide
    · exact br_no10 h c hc
    · rcases hc with rfl | rfl <;> decide
    · rw [hc]; decide
  rw [e, splitGo, if_neg (by simp), lineN_at _ _ hno, take10_at, show dd ++ br ++ dd ++ [13] ++ [10] = (dd ++ br ++ dd) ++ crlf2 from by simp [crlf2], bare_end _ (by intro c hc; rw [List.getLast?_append] at hc; simp [dd] at hc; rw [← hc]; decide), if_pos rfl]
theorem splitM_next (br r : List UInt8) (h : BrOk br) (f : Nat) (cur : Option (List UInt8)) (out : List (List UInt8)) : splitGo br (f + 1) (dd ++ br ++ crlf2 ++ r) cur out = splitGo br f r (some []) (closed cur out) := by
  have e : dd ++ br ++ crlf2 ++ r = (dd ++ br ++ [13]) ++ 10 :: r := by simp [crlf2]
  have hno : ∀ c ∈ dd ++ br ++ [13], c ≠ 10 := by
    intro c hc
    simp only [dd, List.mem_append, List.mem_cons, List.not_mem_nil, or_false] at hc
    rcases hc with (hc | hc) | hc
    · rcases hc with rfl | rfl <;> decide
    · exact br_no10 h c hc
    · rw [hc]; decide
  have hend : ∀ c, (dd ++ br).getLast? = some c → endC c = false := by
    intro c hc
    rw [List.getLast?_append] at hc
    cases hb : br.getLast? with
    | none => exact absurd (List.getLast?_eq_none_iff.1 hb) h.1
    | some d =>
      rw [hb] at hc
      simp at hc
      rw [← hc]
      exact h.2 d (List.mem_of_getLast? hb)
  rw [e, splitGo, if_neg (by simp), lineN_at _ _ hno, take10_at, drop10_at, show dd ++ br ++ [13] ++ [10] = (dd ++ br) ++ crlf2 from by simp [crlf2], bare_end _ hend, if_neg (dd_apart br), if_pos rfl]

/-- What was put between borders. -/
theorem split_all (br behind : List UInt8) (h : BrOk br) : ∀ (ts : List (List UInt8)) (cur : Option (List UInt8)) (out : List (List UInt8)) (f : Nat), (∀ t ∈ ts, ¬ (dd ++ br) <:+: t) → (ts.flatMap (pieceT br) ++ (lastT br ++ behind)).length < f →
    splitGo br f (ts.flatMap (pieceT br) ++ (lastT br ++ behind)) cur out = some (closed cur out ++ ts)
  | [], cur, out, f, _, hf => by
    obtain ⟨f', rfl⟩ : ∃ f', f = f' + 1 := ⟨f - 1, by omega⟩
    rw [List.flatMap_nil, List.nil_append, splitM_last br behind h, List.append_nil]
  | t :: ts, cur, out, f, hno, hf => by
    obtain ⟨f', rfl⟩ : ∃ f', f = f' + 1 := ⟨f - 1, by omega⟩
    have e : (t :: ts).flatMap (pieceT br) ++ (lastT br ++ behind) = dd ++ br ++ crlf2 ++ ((t ++ crlf2) ++ (ts.flatMap (pieceT br) ++ (lastT br ++ behind))) := by
      rw [List.flatMap_cons]; simp [pieceT]
    rw [e] at hf ⊢
    rw [splitM_next br _ h]
    obtain ⟨f2, hf2, h2⟩ := split_over br (ts.flatMap (pieceT br) ++ (lastT br ++ behind)) (closed cur out) (t ++ crlf2).length (t ++ crlf2) (some []) f' (Nat.le_refl _) (.inr (by simp [crlf2])) (no_infix h t (hno t (by simp))) (by rw [List.length_append] at hf; simp only [dd, crlf2, List.length_append, List.length_cons, List.length_nil] at hf ⊢; omega)
    rw [h2, split_all br behind h ts _ _ f2 (fun x hx => hno x (by simp [hx])) hf2]
    simp only [Option.map_some, List.nil_append, closed]
    rw [strip_crlf]
    simp

theorem splitS_all (br behind : List UInt8) (h : BrOk br) (h60 : br.length ≤ 60) (ts : List (List UInt8)) (hno : ∀ t ∈ ts, ¬ (dd ++ br) <:+: t) (h4 : (ts.flatMap (pieceT br) ++ (lastT br ++ behind)).length ≤ 40000) :
    splitS (ts.flatMap (pieceT br) ++ (lastT br ++ behind)) br = (ts, 0) := by
  unfold splitS
  rw [if_neg (by omega), if_neg (by rintro (e | e); exact h.1 e; omega), split_all br behind h ts none [] _ hno (Nat.lt_succ_self _)]
  simp [closed]
/-- The same, with something ahead. -/
theorem splitS_wraps (br ahead behind : List UInt8) (h : BrOk br) (h60 : br.length ≤ 60) (ts : List (List UInt8)) (hno : ∀ t ∈ ts, ¬ (dd ++ br) <:+: t) (ha : ¬ (dd ++ br) <:+: ahead) (h4 : (ahead ++ crlf2 ++ (ts.flatMap (pieceT br) ++ (lastT br ++ behind))).length ≤ 40000) :
    splitS (ahead ++ crlf2 ++ (ts.flatMap (pieceT br) ++ (lastT br ++ behind))) br = (ts, 0) := by
  unfold splitS
  rw [if_neg (by omega), if_neg (by rintro (e | e); exact h.1 e; omega)]
  obtain ⟨f2, hf2, h2⟩ := split_over br (ts.flatMap (pieceT br) ++ (lastT br ++ behind)) [] (ahead ++ crlf2).length (ahead ++ crlf2) none _ (Nat.le_refl _) (.inr (by simp [crlf2])) (no_infix h ahead ha) (Nat.lt_succ_self _)
  rw [h2, Option.map_none, split_all br behind h ts none [] f2 hno hf2]
  simp [closed]
end Go.Proofs.YtlndhdimamnnlaaGreatDoor

/- Plain facts on parts: what is put into the list of places are the part and all in it, depth first, each with the number of the one that it is in, if they are few enough and not too deep. No program. -/
namespace Go.Proofs.YtlndhdimamnnlaaGreatDoor

/-- What is in a part that lies behind others: one number more. -/
def sub (n : Nat) (x : PT × Option Nat) : PT × Option Nat := (x.1, some (match x.2 with | none => 0 | some j => j + n))
def abs (n : Nat) (inn : Int) (x : PT × Option Nat) : PT × Int := (x.1, match x.2 with | none => inn | some j => ((n + j : Nat) : Int))
/-- A part and all in it, depth first, each with the number of the one that it is in; none: the first. -/
def tree : Nat → PT → List (PT × Option Nat)
  | 0, _ => []
  | f + 1, p => p.kids.foldl (fun acc k => acc ++ (tree f k).map (sub acc.length)) [(p, none)]
def grow (f : Nat) (acc : List (PT × Option Nat)) (ks : List PT) : List (PT × Option Nat) := ks.foldl (fun acc k => acc ++ (tree f k).map (sub acc.length)) acc
theorem grow_nil (f : Nat) (acc : List (PT × Option Nat)) : grow f acc [] = acc := rfl
theorem grow_cons (f : Nat) (acc : List (PT × Option Nat)) (k : PT) (ks : List PT) : grow f acc (k :: ks) = grow f (acc ++ (tree f k).map (sub acc.length)) ks := rfl
theorem tree_grow (f : Nat) (p : PT) : tree (f + 1) p = grow f [(p, none)] p.kids := by rw [tree]; rfl
theorem grow_le (f : Nat) : ∀ (ks : List PT) (acc : List (PT × Option Nat)), acc.length ≤ (grow f acc ks).length
  | [], acc => Nat.le_refl _
  | k :: ks, acc => by
    rw [grow_cons]
    have := grow_le f ks (acc ++ (tree f k).map (sub acc.length))
    rw [List.length_append] at this
    omega
theorem tree_pos (f : Nat) (p : PT) : 1 ≤ (tree (f + 1) p).length := by
  rw [tree_grow]; exact grow_le f p.kids [(p, none)]
/-- As many levels at most. -/
def lev : Nat → PT → Bool
  | 0, _ => false
  | n + 1, p => p.kids.all (lev n)
theorem lev_succ (n : Nat) (p : PT) : lev (n + 1) p = p.kids.all (lev n) := by rw [lev]

theorem abs_sub (n a : Nat) (inn : Int) (x : PT × Option Nat) : abs n inn (sub a x) = abs (n + a) n x := by
  obtain ⟨x, j⟩ := x
  cases j with
  | none => simp [abs, sub]
  | some j => simp only [abs, sub]; congr 1; omega

theorem putAll_spec (f : Nat) (ih : ∀ l p inn, l.length ≤ 12 → put (f + 1) l p (4 - f) inn = if lev f p = true ∧ l.length + (tree (f + 1) p).length ≤ 12 then some (l ++ (tree (f + 1) p).map (abs l.length inn)) else none) (l : List (PT × Int)) (inn : Int) :
    ∀ (ks : List PT) (acc : List (PT × Option Nat)), l.length + acc.length ≤ 12 → putAll (f + 1) (4 - f) l.length (l ++ acc.map (abs l.length inn)) ks =
      if ks.all (lev f) = true ∧ l.length + (grow (f + 1) acc ks).length ≤ 12 then some (l ++ (grow (f + 1) acc ks).map (abs l.length inn)) else none
  | [], acc, h => by rw [putAll_nil, grow_nil, if_pos ⟨rfl, h⟩]
  | k :: ks, acc, h => by
    have hk := ih (l ++ acc.map (abs l.length inn)) k l.length (by rw [List.length_append, List.length_map]; exact h)
    rw [List.length_append, List.length_map] at hk
    have hg := grow_le (f + 1) ks (acc ++ (tree (f + 1) k).map (sub acc.length))
    rw [List.length_append, List.length_map] at hg
    rw [grow_cons]
    by_cases hc : lev f k = true ∧ l.length + acc.length + (tree (f + 1) k).length ≤ 12
    · rw [if_pos hc] at hk
      rw [putAll_some _ _ _ _ _ _ _ hk]
      have e : (l ++ acc.map (abs l.length inn)) ++ (tree (f + 1) k).map (abs (l.length + acc.length) l.length) = l ++ (acc ++ (tree (f + 1) k).map (sub acc.length)).map (abs l.length inn) := by
        rw [List.map_append, List.map_map, List.append_assoc]
        congr 2
        exact List.map_congr_left fun x _ => (abs_sub _ _ _ x).symm
      rw [e, putAll_spec f ih l inn ks _ (by rw [List.length_append, List.length_map]; omega), List.all_cons, hc.1, Bool.true_and]
    · rw [if_neg hc] at hk
      rw [putAll_none _ _ _ _ _ _ hk, if_neg]
      rintro ⟨h1, h2⟩
      rw [List.all_cons, Bool.and_eq_true] at h1
      exact hc ⟨h1.1, by omega⟩

theorem put_spec : ∀ (f : Nat), f ≤ 3 → ∀ (l : List (PT × Int)) (p : PT) (inn : Int), l.length ≤ 12 →
    put (f + 1) l p (4 - f) inn = if lev f p = true ∧ l.length + (tree (f + 1) p).length ≤ 12 then some (l ++ (tree (f + 1) p).map (abs l.length inn)) else none
  | 0, _, l, p, inn, _ => by rw [put_stop _ _ _ _ _ (Or.inr (by omega)), if_neg (fun h => by have := h.1; rw [lev] at this; cases this)]
  | f + 1, hf, l, p, inn, hl => by
    by_cases hs : l.length = 12
    · rw [put_stop _ _ _ _ _ (Or.inl hs), if_neg]
      have := tree_pos (f + 1) p
      omega
    · rw [put_go _ _ _ _ _ (by omega), show 4 - (f + 1) + 1 = 4 - f from by omega]
      have := putAll_spec f (fun l p inn hl => put_spec f (by omega) l p inn hl) l inn p.kids [(p, none)] (by simp; omega)
      rw [show l ++ [(p, none)].map (abs l.length inn) = l ++ [(p, inn)] from rfl] at this
      rw [this, ← tree_grow, ← lev_succ]
/-- The list of places of a part, as the document says it. -/
theorem places_spec (p : PT) : put 4 [] p 1 (-1) = if lev 3 p = true ∧ (tree 4 p).length ≤ 12 then some ((tree 4 p).map (abs 0 (-1))) else none := by
  have := put_spec 3 (by omega) [] p (-1) (by simp)
  simpa using this
end Go.Proofs.YtlndhdimamnnlaaGreatDoor

/- Plain facts on parts: each part is in one ahead of it, which has parts; each that has parts has one in it. No program. -/
namespace Go.Proofs.YtlndhdimamnnlaaGreatDoor

theorem grow_same (f g : Nat) : ∀ (ks : List PT) (acc : List (PT × Option Nat)), (∀ k ∈ ks, tree g k = tree f k) → grow g acc ks = grow f acc ks
  | [], _, _ => rfl
  | k :: ks, acc, h => by
    rw [grow_cons, grow_cons, h k (by simp)]
    exact grow_same f g ks _ fun x hx => h x (by simp [hx])
theorem tree_fuel : ∀ (f : Nat) (p : PT), lev f p = true → ∀ g, f ≤ g → tree g p = tree f p
  | 0, p, h, _, _ => by rw [lev] at h; cases h
  | f + 1, p, h, 0, hg => by omega
  | f + 1, p, h, g + 1, hg => by
    rw [lev_succ, List.all_eq_true] at h
    rw [tree_grow, tree_grow]
    exact grow_same f g p.kids _ fun k hk => tree_fuel f k (h k hk) g (by omega)

/-- Each but the first is in one ahead of it, which has parts; each that has parts has one in it, but for those that q says. -/
def GoodBut (q : Nat → Prop) (T : List (PT × Option Nat)) : Prop :=
  (∀ (j : Nat) (x : PT × Option Nat), 1 ≤ j → T[j]? = some x → ∃ (k : Nat) (y : PT × Option Nat), x.2 = some k ∧ k < j ∧ T[k]? = some y ∧ y.1.kids ≠ []) ∧
  (∀ (j : Nat) (x : PT × Option Nat), T[j]? = some x → x.1.kids ≠ [] → q j ∨ ∃ (i : Nat) (y : PT × Option Nat), T[i]? = some y ∧ y.2 = some j)
def Good (p : PT) (T : List (PT × Option Nat)) : Prop := T[0]? = some (p, none) ∧ GoodBut (fun _ => False) T

theorem good_add (p k : PT) (q : Nat → Prop) (acc t : List (PT × Option Nat)) (hp : p.kids ≠ []) (h0 : acc[0]? = some (p, none)) (ha : GoodBut q acc) (ht : Good k t) :
    (acc ++ t.map (sub acc.length))[0]? = some (p, none) ∧ GoodBut (fun j => q j ∧ j ≠ 0) (acc ++ t.map (sub acc.length)) := by
  have hpos : 0 < acc.length := by
    rcases Nat.eq_zero_or_pos acc.length with h | h
    · rw [List.eq_nil_of_length_eq_zero h] at h0; cases h0
    · exact h
  have hl : ∀ (i : Nat) x, acc[i]? = some x → (acc ++ t.map (sub acc.length))[i]? = some x := fun i x h => by
    have hi : i < acc.length := (List.getElem?_eq_some_iff.1 h).1
    rw [List.getElem?_append_left hi]; exact h
  have hr : ∀ (i : Nat) x, t[i]? = some x → (acc ++ t.map (sub acc.length))[acc.length + i]? = some (sub acc.length x) := fun i x h => by
    rw [List.getElem?_append_right (by omega), show acc.length + i - acc.length = i from by omega, List.getElem?_map, h]; rfl
  have hwhich : ∀ (j : Nat) x, (acc ++ t.map (sub acc.length))[j]? = some x → acc[j]? = some x ∨ ∃ i y, j = acc.length + i ∧ t[i]? = some y ∧ x = sub acc.length y := fun j x h => by
    by_cases hj : j < acc.length
    · rw [List.getElem?_append_left hj] at h; exact Or.inl h
    · rw [List.getElem?_append_right (by omega), List.getElem?_map] at h
      cases hy : t[j - acc.length]? with
      | none => rw [hy] at h; cases h
      | some y => rw [hy] at h; exact Or.inr ⟨j - acc.length, y, by omega, hy, (Option.some.inj h).symm⟩
  refine ⟨hl 0 _ h0, fun j x hj h => ?_, fun j x h hk => ?_⟩
  · rcases hwhich j x h with h | ⟨i, y, rfl, hy, rfl⟩
    · obtain ⟨k', y, e, hlt, hy, hk⟩ := ha.1 j x hj h
      exact ⟨k', y, e, hlt, hl _ _ hy, hk⟩
    · by_cases hi : i = 0
      · subst hi
        rw [ht.1] at hy
        obtain rfl := Option.some.inj hy
        exact ⟨0, (p, none), rfl, by omega, hl 0 _ h0, hp⟩
      · obtain ⟨k', z, e, hlt, hz, hkz⟩ := ht.2.1 i y (by omega) hy
        exact ⟨acc.length + k', sub acc.length z, by simp [sub, e]; omega, by omega, hr _ _ hz, hkz⟩
  · rcases hwhich j x h with h | ⟨i, y, rfl, hy, rfl⟩
    · by_cases hj : j = 0
      · subst hj
        exact Or.inr ⟨acc.length, _, hr 0 _ ht.1, rfl⟩
      · rcases ha.2 j x h hk with hq | ⟨i, y, hy, e⟩
        · exact Or.inl ⟨hq, hj⟩
        · exact Or.inr ⟨i, y, hl _ _ hy, e⟩
    · rcases ht.2.2 i y hy hk with hq | ⟨i', z, hz, e⟩
      · cases hq
      · exact Or.inr ⟨acc.length + i', _, hr _ _ hz, by simp [sub, e]; omega⟩

theorem good_grow (f : Nat) (p : PT) (hp : p.kids ≠ []) : ∀ (ks : List PT) (q : Nat → Prop) (acc : List (PT × Option Nat)), (∀ k ∈ ks, Good k (tree f k)) → acc[0]? = some (p, none) → GoodBut q acc →
    (grow f acc ks)[0]? = some (p, none) ∧ GoodBut (fun j => q j ∧ (ks ≠ [] → j ≠ 0)) (grow f acc ks)
  | [], q, acc, _, h0, ha => ⟨h0, ha.1, fun j x h hk => (ha.2 j x h hk).imp_left fun hq => ⟨hq, fun h => absurd rfl h⟩⟩
  | k :: ks, q, acc, hk, h0, ha => by
    rw [grow_cons]
    obtain ⟨h1, h2⟩ := good_add p k q acc (tree f k) hp h0 ha (hk k (by simp))
    obtain ⟨h3, h4⟩ := good_grow f p hp ks _ _ (fun x hx => hk x (by simp [hx])) h1 h2
    exact ⟨h3, h4.1, fun j x h hk => (h4.2 j x h hk).imp_left fun hq => ⟨hq.1.1, fun _ => hq.1.2⟩⟩

theorem good_tree : ∀ (f : Nat) (p : PT), lev f p = true → Good p (tree f p)
  | 0, p, h => by rw [lev] at h; cases h
  | f + 1, p, h => by
    rw [lev_succ, List.all_eq_true] at h
    rw [tree_grow]
    have hb : GoodBut (fun j => j = 0 ∧ p.kids ≠ []) [(p, none)] := by
      refine ⟨fun j x hj h => ?_, fun j x h hk => ?_⟩
      · rw [List.getElem?_eq_none (by simp; omega)] at h; cases h
      · cases j with
        | zero => cases h; exact Or.inl ⟨rfl, hk⟩
        | succ j => cases h
    by_cases hp : p.kids = []
    · rw [hp, grow_nil]
      exact ⟨rfl, hb.1, fun j x h hk => (hb.2 j x h hk).imp_left fun hq => hq.2 hp⟩
    · obtain ⟨h1, h2⟩ := good_grow f p hp p.kids _ [(p, none)] (fun k hk => good_tree f k (h k hk)) rfl hb
      exact ⟨h1, h2.1, fun j x hx hk => (h2.2 j x hx hk).imp_left fun hq => hq.2 hp hq.1.1⟩
end Go.Proofs.YtlndhdimamnnlaaGreatDoor

/- Plain facts on parts: of a part with nothing wrong each place but the first is in one ahead of it, which is Many; those are Many in which one is. No program. -/
namespace Go.Proofs.YtlndhdimamnnlaaGreatDoor

theorem places_ok (p : PT) (h : (placesP p).1 = 0) : lev 3 p = true ∧ (tree 3 p).length ≤ 12 ∧ (placesP p).2 = (tree 3 p).map (abs 0 (-1)) ∧ firstBad (placesP p).2 = 0 := by
  have hs := places_spec p
  unfold placesP at h ⊢
  by_cases hc : lev 3 p = true ∧ (tree 4 p).length ≤ 12
  · rw [if_pos hc] at hs
    rw [hs] at h ⊢
    simp only at h ⊢
    by_cases hb : firstBad ((tree 4 p).map (abs 0 (-1))) = 0
    · rw [if_pos hb]
      rw [tree_fuel 3 p hc.1 4 (by omega)] at hc hb ⊢
      exact ⟨hc.1, hc.2, rfl, hb⟩
    · rw [if_neg hb] at h; exact absurd h hb
  · rw [if_neg hc] at hs
    rw [hs] at h
    cases h

theorem chkA_many (p : PT) (h : chkA p = 0) : manyS p.ty.data.toList = !p.kids.isEmpty := by
  unfold chkA at h
  split at h
  · cases h
  · split at h
    · cases h
    · split at h
      · cases h
      · split at h
        · cases h
        · rename_i hf
          have hf' : formedP p = true := by simpa using hf
          unfold formedP at hf'
          cases hm : manyS p.ty.data.toList with
          | true => rw [hm] at hf'; simp at hf'; simp [hf'.1]
          | false => rw [hm] at hf'; simp at hf'; simp [hf']
theorem bad_each : ∀ (L : List (PT × Int)), firstBad L = 0 → ∀ x ∈ L, chkA x.1 = 0
  | [], _, x, hx => by cases hx
  | y :: L, h, x, hx => by
    rw [firstBad] at h
    split at h
    · rename_i h0
      rcases List.mem_cons.1 hx with e | e
      · subst e; exact h0
      · exact bad_each L h x e
    · rename_i h0; exact absurd h h0

theorem tree_facts (p : PT) (h : (placesP p).1 = 0) :
    (placesP p).2.length ≤ 12 ∧ ((placesP p).2[0]? = some (p, -1)) ∧
    (∀ (j : Nat) (x : PT × Int), 1 ≤ j → (placesP p).2[j]? = some x → ∃ (k : Nat) (y : PT × Int), x.2 = (k : Int) ∧ k < j ∧ (placesP p).2[k]? = some y ∧ manyS y.1.ty.data.toList = true) ∧
    (∀ (j : Nat) (x : PT × Int), (placesP p).2[j]? = some x → manyS x.1.ty.data.toList = ((placesP p).2.map (·.2)).contains (j : Int)) := by
  obtain ⟨hl, h12, hL, hb⟩ := places_ok p h
  have hg := good_tree 3 p hl
  rw [hL] at hb ⊢
  generalize tree 3 p = T at *
  obtain ⟨g0, g1, g2⟩ := hg
  have hat : ∀ (j : Nat) (x : PT × Int), (T.map (abs 0 (-1)))[j]? = some x → ∃ t, T[j]? = some t ∧ x = abs 0 (-1) t := fun j x hx => by
    rw [List.getElem?_map] at hx
    cases ht : T[j]? with
    | none => rw [ht] at hx; cases hx
    | some t => rw [ht] at hx; exact ⟨t, rfl, (Option.some.inj hx).symm⟩
  have hto : ∀ (j : Nat) (t : PT × Option Nat), T[j]? = some t → (T.map (abs 0 (-1)))[j]? = some (abs 0 (-1) t) := fun j t ht => by rw [List.getElem?_map, ht]; rfl
  have hmany : ∀ (j : Nat) (t : PT × Option Nat), T[j]? = some t → manyS t.1.ty.data.toList = !t.1.kids.isEmpty := fun j t ht => chkA_many t.1 (bad_each _ hb _ (List.mem_of_getElem? (hto j t ht)))
  refine ⟨by rw [List.length_map]; exact h12, hto 0 _ g0, fun j x hj hx => ?_, fun j x hx => ?_⟩
  · obtain ⟨t, ht, rfl⟩ := hat j x hx
    obtain ⟨k, y, e, hk, hy, hkk⟩ := g1 j t hj ht
    refine ⟨k, abs 0 (-1) y, by simp [abs, e], hk, hto k y hy, ?_⟩
    show manyS y.1.ty.data.toList = true
    rw [hmany k y hy]
    cases hq : y.1.kids with
    | nil => exact absurd hq hkk
    | cons a l => rfl
  · obtain ⟨t, ht, rfl⟩ := hat j x hx
    show manyS t.1.ty.data.toList = _
    rw [hmany j t ht, Bool.eq_iff_iff]
    constructor
    · intro hq
      have hne : t.1.kids ≠ [] := fun e => by rw [e] at hq; cases hq
      rcases g2 j t ht hne with hf | ⟨i, y, hy, e⟩
      · cases hf
      · rw [List.contains_iff_mem]
        exact List.mem_map.2 ⟨_, List.mem_of_getElem? (hto i y hy), by simp [abs, e]⟩
    · intro hq
      rw [List.contains_iff_mem] at hq
      obtain ⟨x, hx, hxj⟩ := List.mem_map.1 hq
      obtain ⟨i, hi⟩ := List.mem_iff_getElem?.1 hx
      obtain ⟨y, hy, rfl⟩ := hat i x hi
      have hye : y.2 = some j := by
        cases hyy : y.2 with
        | none => simp [abs, hyy] at hxj
        | some k => simp [abs, hyy] at hxj; rw [show k = j from by omega]
      have hi1 : 1 ≤ i := by
        rcases Nat.eq_zero_or_pos i with e | e
        · subst e; rw [g0] at hy; obtain rfl := Option.some.inj hy; cases hye
        · exact e
      obtain ⟨k, z, e, _, hz, hzk⟩ := g1 i y hi1 hy
      rw [hye] at e
      obtain rfl := Option.some.inj e
      rw [ht] at hz
      obtain rfl := Option.some.inj hz
      cases hq : t.1.kids with
      | nil => exact absurd hq hzk
      | cons a l => rfl
end Go.Proofs.YtlndhdimamnnlaaGreatDoor

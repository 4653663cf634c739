
import Derived.Test.YtlndhdimamnnlaaGreatDoorXmimesays12
import Derived.Lib.Replace
namespace Go.Proofs.YtlndhdimamnnlaaGreatDoor
def crlf2 : List UInt8 := [13, 10]
def pieceT (br t : List UInt8) : List UInt8 := dd ++ br ++ crlf2 ++ (t ++ crlf2)
def lastT (br : List UInt8) : List UInt8 := dd ++ br ++ dd ++ crlf2
theorem lineN_at : ∀ (a r : List UInt8), (∀ c ∈ a, c ≠ 10) → lineN (a ++ 10 :: r) = a.length + 1
 | [], r, _ => by rw [List.nil_append, lineN, if_pos rfl]; rfl
 | c :: a, r, h => by
  rw [List.cons_append, lineN, if_neg (h c (by simp)), lineN_at a r (fun x hx => h x (by simp [hx]))]
  rfl
theorem take10_at (a r : List UInt8) : (a ++ 10 :: r).take (a.length + 1) = a ++ [10] := by
 rw [show a ++ 10 :: r = (a ++ [10]) ++ r from by simp]
 exact List.take_left' (by simp)
theorem drop10_at (a r : List UInt8) : (a ++ 10 :: r).drop (a.length + 1) = r := by
 rw [show a ++ 10 :: r = (a ++ [10]) ++ r from by simp]
 exact List.drop_left' (by simp)
theorem dropEnd_pre (p : UInt8 → Bool) (l : List UInt8) : ∃ t, l = dropEnd p l ++ t := by
 unfold dropEnd
 have h := List.takeWhile_append_dropWhile (p := p) (l := l.reverse)
 refine ⟨(l.reverse.takeWhile p).reverse, ?_⟩
 rw [← List.reverse_append, h, List.reverse_reverse]
theorem bare_infix (l br e : List UInt8) (h : bareL l = dd ++ br ++ e) : dd ++ br <:+: l := by
 obtain ⟨t, ht⟩ := dropEnd_pre endC l
 unfold bareL at h
 rw [h] at ht
 exact ⟨[], e ++ t, by rw [ht]; simp⟩
theorem mem10 : ∀ (x : List UInt8), 10 ∈ x → ∃ a r, x = a ++ 10 :: r ∧ ∀ c ∈ a, c ≠ 10
 | [], h => by simp at h
 | c :: x, h => by
  by_cases e : c = 10
  ·exact ⟨[], x, by rw [e]; rfl, by simp⟩
  ·obtain ⟨a, r, h1, h2⟩ := mem10 x (by rcases List.mem_cons.1 h with h | h; exact absurd h.symm e; exact h)
   refine ⟨c :: a, r, by rw [h1]; rfl, fun y hy => ?_⟩
   rcases List.mem_cons.1 hy with rfl | hy
   ·exact e
   ·exact h2 y hy
theorem split_over (br : List UInt8) (more : List UInt8) (out : List (List UInt8)) : ∀ (n : Nat) (x : List UInt8) (cur : Option (List UInt8)) (f : Nat), x.length ≤ n → (x = [] ∨ x.getLast? = some 10) → ¬ (dd ++ br) <:+: x → (x ++ more).length < f →
  ∃ f', more.length < f' ∧ splitGo br f (x ++ more) cur out = splitGo br f' more (cur.map (· ++ x)) out
 | n, [], cur, f, _, _, _, hf => ⟨f, hf, by
   have : cur.map (· ++ ([] : List UInt8)) = cur := by cases cur <;> simp
   rw [this]; rfl⟩
 | 0, c :: x, cur, f, h, _, _, _ => absurd h (by simp)
 | n + 1, c :: x, cur, f, hn, hl, hno, hf => by
  have hl : (c :: x).getLast? = some 10 := by rcases hl with h | h; exact absurd h (by simp); exact h
  obtain ⟨a, r, e, ha⟩ := mem10 (c :: x) (List.mem_of_getLast? hl)
  rw [e] at hn hl hno hf ⊢
  clear e
  obtain ⟨f', rfl⟩ : ∃ f', f = f' + 1 := ⟨f - 1, by omega⟩
  have ee : a ++ 10 :: r ++ more = a ++ 10 :: (r ++ more) := by simp
  have hln : lineN (a ++ 10 :: (r ++ more)) = a.length + 1 := lineN_at a _ ha
  have htk := take10_at a (r ++ more)
  have hdr := drop10_at a (r ++ more)
  have hin : a ++ [10] <:+: a ++ 10 :: r := ⟨[], r, by simp⟩
  have hb1 : ¬ bareL (a ++ [10]) = dd ++ br ++ dd := fun h => hno ((bare_infix _ _ _ h).trans hin)
  have hb2 : ¬ bareL (a ++ [10]) = dd ++ br := fun h => hno ((bare_infix _ br [] (by rw [List.append_nil]; exact h)).trans hin)
  have hr : r = [] ∨ r.getLast? = some 10 := by
   cases r with
   | nil => exact .inl rfl
   | cons d r =>
    right
    rw [List.getLast?_append] at hl
    simpa using hl
  obtain ⟨f2, hf2, h2⟩ := split_over br more out n r (cur.map (· ++ (a ++ [10]))) f' (by rw [List.length_append, List.length_cons] at hn; omega) hr (fun h => hno (h.trans ⟨a ++ [10], [], by simp⟩)) (by rw [ee] at hf; rw [List.length_append, List.length_cons] at hf; omega)
  refine ⟨f2, hf2, ?_⟩
  rw [ee, splitGo, if_neg (by simp), hln, htk, hdr, if_neg hb1, if_neg hb2, h2]
  congr 1
  cases cur with
  | none => rfl
  | some z => simp
theorem strip_crlf (t : List UInt8) : stripE (t ++ crlf2) = t := by
 unfold stripE noEnd crlf2
 have e : t ++ [13, 10] = (t ++ [13]) ++ [10] := by simp
 rw [e, if_pos (by simp), List.dropLast_concat, if_pos (by simp), List.dropLast_concat]
theorem bare_end (a : List UInt8) (h : ∀ c, a.getLast? = some c → endC c = false) : bareL (a ++ crlf2) = a := by
 unfold bareL crlf2
 rw [show a ++ [13, 10] = (a ++ [13]) ++ [10] from by simp, dropEnd_yes _ _ _ (by decide), dropEnd_yes _ _ _ (by decide), dropEnd_last _ _ h]
def BrOk (br : List UInt8) : Prop := br ≠ [] ∧ ∀ c ∈ br, endC c = false
theorem br_no10 {br : List UInt8} (h : BrOk br) : ∀ c ∈ br, c ≠ 10 := fun c hc e => by
 have := h.2 c hc
 rw [e] at this
 exact absurd this (by decide)
theorem no_infix {br : List UInt8} (h : BrOk br) (t : List UInt8) (hno : ¬ (dd ++ br) <:+: t) : ¬ (dd ++ br) <:+: t ++ crlf2 := by
 obtain ⟨y, c, rfl⟩ : ∃ y c, br = y ++ [c] := by
  rcases List.eq_nil_or_concat br with e | ⟨y, c, e⟩
  ·exact absurd e h.1
  ·exact ⟨y, c, by rw [e, List.concat_eq_append]⟩
 have hc := h.2 c (by simp)
 have key : ∀ (d : UInt8) (l : List UInt8), endC d = true → ¬ (dd ++ (y ++ [c])) <:+: l → ¬ (dd ++ (y ++ [c])) <:+: l ++ [d] := by
  intro d l hd hl hi
  rw [List.infix_concat_iff, List.suffix_concat_iff] at hi
  rcases hi with (hi | ⟨t, h1, _⟩) | hi
  ·simp [dd] at hi
  ·have h2 := congrArg List.getLast? h1
   rw [← List.append_assoc] at h2
   simp at h2
   rw [h2, hd] at hc
   cases hc
  ·exact hl hi
 unfold crlf2
 rw [show t ++ [13, 10] = (t ++ [13]) ++ [10] from by simp]
 exact key 10 _ (by decide) (key 13 _ (by decide) hno)
theorem splitM_last (br behind : List UInt8) (h : BrOk br) (f : Nat) (cur : Option (List UInt8)) (out : List (List UInt8)) : splitGo br (f + 1) (lastT br ++ behind) cur out = some (closed cur out) := by
 have e : lastT br ++ behind = (dd ++ br ++ dd ++ [13]) ++ 10 :: behind := by simp [lastT, crlf2]
 have hno : ∀ c ∈ dd ++ br ++ dd ++ [13], c ≠ 10 := by
  intro c hc
  simp only [dd, List.mem_append, List.mem_cons, List.not_mem_nil, or_false] at hc
  rcases hc with ((hc | hc) | hc) | hc
  ·rcases hc with rfl | rfl <;> decide
  ·exact br_no10 h c hc
  ·rcases hc with rfl | rfl <;> decide
  ·rw [hc]; decide
 rw [e, splitGo, if_neg (by simp), lineN_at _ _ hno, take10_at, show dd ++ br ++ dd ++ [13] ++ [10] = (dd ++ br ++ dd) ++ crlf2 from by simp [crlf2], bare_end _ (by intro c hc; rw [List.getLast?_append] at hc; simp [dd] at hc; rw [← hc]; decide), if_pos rfl]
theorem splitM_next (br r : List UInt8) (h : BrOk br) (f : Nat) (cur : Option (List UInt8)) (out : List (List UInt8)) : splitGo br (f + 1) (dd ++ br ++ crlf2 ++ r) cur out = splitGo br f r (some []) (closed cur out) := by
 have e : dd ++ br ++ crlf2 ++ r = (dd ++ br ++ [13]) ++ 10 :: r := by simp [crlf2]
 have hno : ∀ c ∈ dd ++ br ++ [13], c ≠ 10 := by
  intro c hc
  simp only [dd, List.mem_append, List.mem_cons, List.not_mem_nil, or_false] at hc
  rcases hc with (hc | hc) | hc
  ·rcases hc with rfl | rfl <;> decide
  ·exact br_no10 h c hc
  ·rw [hc]; decide
 have hend : ∀ c, (dd ++ br).getLast? = some c → endC c = false := by
  intro c hc
  rw [List.getLast?_append] at hc
  cases hb : br.getLast? with
  | none => exact absurd (List.getLast?_eq_none_iff.1 hb) h.1
  | some d =>
   rw [hb] at hc
   simp at hc
   rw [← hc]
   exact h.2 d (List.mem_of_getLast? hb)
 rw [e, splitGo, if_neg (by simp), lineN_at _ _ hno, take10_at, drop10_at, show dd ++ br ++ [13] ++ [10] = (dd ++ br) ++ crlf2 from by simp [crlf2], bare_end _ hend, if_neg (dd_apart br), if_pos rfl]
theorem split_all (br behind : List UInt8) (h : BrOk br) : ∀ (ts : List (List UInt8)) (cur : Option (List UInt8)) (out : List (List UInt8)) (f : Nat), (∀ t ∈ ts, ¬ (dd ++ br) <:+: t) → (ts.flatMap (pieceT br) ++ (lastT br ++ behind)).length < f →
  splitGo br f (ts.flatMap (pieceT br) ++ (lastT br ++ behind)) cur out = some (closed cur out ++ ts)
 | [], cur, out, f, _, hf => by
  obtain ⟨f', rfl⟩ : ∃ f', f = f' + 1 := ⟨f - 1, by omega⟩
  rw [List.flatMap_nil, List.nil_append, splitM_last br behind h, List.append_nil]
 | t :: ts, cur, out, f, hno, hf => by
  obtain ⟨f', rfl⟩ : ∃ f', f = f' + 1 := ⟨f - 1, by omega⟩
  have e : (t :: ts).flatMap (pieceT br) ++ (lastT br ++ behind) = dd ++ br ++ crlf2 ++ ((t ++ crlf2) ++ (ts.flatMap (pieceT br) ++ (lastT br ++ behind))) := by
   rw [List.flatMap_cons]; simp [pieceT]
  rw [e] at hf ⊢
  rw [splitM_next br _ h]
  obtain ⟨f2, hf2, h2⟩ := split_over br (ts.flatMap (pieceT br) ++ (lastT br ++ behind)) (closed cur out) (t ++ crlf2).length (t ++ crlf2) (some []) f' (Nat.le_refl _) (.inr (by simp [crlf2])) (no_infix h t (hno t (by simp))) (by rw [List.length_append] at hf; simp only [dd, crlf2, List.length_append, List.length_cons, List.length_nil] at hf ⊢; omega)
  rw [h2, split_all br behind h ts _ _ f2 (fun x hx => hno x (by simp [hx])) hf2]
  simp only [Option.map_some, List.nil_append, closed]
  rw [strip_crlf]
  simp
theorem splitS_all (br behind : List UInt8) (h : BrOk br) (h60 : br.length ≤ 60) (ts : List (List UInt8)) (hno : ∀ t ∈ ts, ¬ (dd ++ br) <:+: t) (h4 : (ts.flatMap (pieceT br) ++ (lastT br ++ behind)).length ≤ 40000) :
  splitS (ts.flatMap (pieceT br) ++ (lastT br ++ behind)) br = (ts, 0) := by
 unfold splitS
 rw [if_neg (by omega), if_neg (by rintro (e | e); exact h.1 e; omega), split_all br behind h ts none [] _ hno (Nat.lt_succ_self _)]
 simp [closed]
end Go.Proofs.YtlndhdimamnnlaaGreatDoor



namespace Go.Proofs.YtlndhdimamnnlaaGreatDoor
def sub (n : Nat) (x : PT × Option Nat) : PT × Option Nat := (x.1, some (match x.2 with | none => 0 | some j => j + n))
def abs (n : Nat) (inn : Int) (x : PT × Option Nat) : PT × Int := (x.1, match x.2 with | none => inn | some j => ((n + j : Nat) : Int))
def tree : Nat → PT → List (PT × Option Nat)
 | 0, _ => []
 | f + 1, p => p.kids.foldl (fun acc k => acc ++ (tree f k).map (sub acc.length)) [(p, none)]
def grow (f : Nat) (acc : List (PT × Option Nat)) (ks : List PT) : List (PT × Option Nat) := ks.foldl (fun acc k => acc ++ (tree f k).map (sub acc.length)) acc
theorem grow_nil (f : Nat) (acc : List (PT × Option Nat)) : grow f acc [] = acc := rfl
theorem grow_cons (f : Nat) (acc : List (PT × Option Nat)) (k : PT) (ks : List PT) : grow f acc (k :: ks) = grow f (acc ++ (tree f k).map (sub acc.length)) ks := rfl
theorem tree_grow (f : Nat) (p : PT) : tree (f + 1) p = grow f [(p, none)] p.kids := by rw [tree]; rfl
theorem grow_le (f : Nat) : ∀ (ks : List PT) (acc : List (PT × Option Nat)), acc.length ≤ (grow f acc ks).length
 | [], acc => Nat.le_refl _
 | k :: ks, acc => by
  rw [grow_cons]
  have := grow_le f ks (acc ++ (tree f k).map (sub acc.length))
  rw [List.length_append] at this
  omega
theorem tree_pos (f : Nat) (p : PT) : 1 ≤ (tree (f + 1) p).length := by
 rw [tree_grow]; exact grow_le f p.kids [(p, none)]
def lev : Nat → PT → Bool
 | 0, _ => false
 | n + 1, p => p.kids.all (lev n)
theorem lev_succ (n : Nat) (p : PT) : lev (n + 1) p = p.kids.all (lev n) := by rw [lev]
theorem abs_sub (n a : Nat) (inn : Int) (x : PT × Option Nat) : abs n inn (sub a x) = abs (n + a) n x := by
 obtain ⟨x, j⟩ := x
 cases j with
 | none => simp [abs, sub]
 | some j => simp only [abs, sub]; congr 1; omega
theorem putAll_spec (f : Nat) (ih : ∀ l p inn, l.length ≤ 12 → put (f + 1) l p (4 - f) inn = if lev f p = true ∧ l.length + (tree (f + 1) p).length ≤ 12 then some (l ++ (tree (f + 1) p).map (abs l.length inn)) else none) (l : List (PT × Int)) (inn : Int) :
  ∀ (ks : List PT) (acc : List (PT × Option Nat)), l.length + acc.length ≤ 12 → putAll (f + 1) (4 - f) l.length (l ++ acc.map (abs l.length inn)) ks =
   if ks.all (lev f) = true ∧ l.length + (grow (f + 1) acc ks).length ≤ 12 then some (l ++ (grow (f + 1) acc ks).map (abs l.length inn)) else none
 | [], acc, h => by rw [putAll_nil, grow_nil, if_pos ⟨rfl, h⟩]
 | k :: ks, acc, h => by
  have hk := ih (l ++ acc.map (abs l.length inn)) k l.length (by rw [List.length_append, List.length_map]; exact h)
  rw [List.length_append, List.length_map] at hk
  have hg := grow_le (f + 1) ks (acc ++ (tree (f + 1) k).map (sub acc.length))
  rw [List.length_append, List.length_map] at hg
  rw [grow_cons]
  by_cases hc : lev f k = true ∧ l.length + acc.length + (tree (f + 1) k).length ≤ 12
  ·rw [if_pos hc] at hk
   rw [putAll_some _ _ _ _ _ _ _ hk]
   have e : (l ++ acc.map (abs l.length inn)) ++ (tree (f + 1) k).map (abs (l.length + acc.length) l.length) = l ++ (acc ++ (tree (f + 1) k).map (sub acc.length)).map (abs l.length inn) := by
    rw [List.map_append, List.map_map, List.append_assoc]
    congr 2
    exact List.map_congr_left fun x _ => (abs_sub _ _ _ x).symm
   rw [e, putAll_spec f ih l inn ks _ (by rw [List.length_append, List.length_map]; omega), List.all_cons, hc.1, Bool.true_and]
  ·rw [if_neg hc] at hk
   rw [putAll_none _ _ _ _ _ _ hk, if_neg]
   rintro ⟨h1, h2⟩
   rw [List.all_cons, Bool.and_eq_true] at h1
   exact hc ⟨h1.1, by omega⟩
theorem put_spec : ∀ (f : Nat), f ≤ 3 → ∀ (l : List (PT × Int)) (p : PT) (inn : Int), l.length ≤ 12 →
  put (f + 1) l p (4 - f) inn = if lev f p = true ∧ l.length + (tree (f + 1) p).length ≤ 12 then some (l ++ (tree (f + 1) p).map (abs l.length inn)) else none
 | 0, _, l, p, inn, _ => by rw [put_stop _ _ _ _ _ (Or.inr (by omega)), if_neg (fun h => by have := h.1; rw [lev] at this; cases this)]
 | f + 1, hf, l, p, inn, hl => by
  by_cases hs : l.length = 12
  ·rw [put_stop _ _ _ _ _ (Or.inl hs), if_neg]
   have := tree_pos (f + 1) p
   omega
  ·rw [put_go _ _ _ _ _ (by omega), show 4 - (f + 1) + 1 = 4 - f from by omega]
   have := putAll_spec f (fun l p inn hl => put_spec f (by omega) l p inn hl) l inn p.kids [(p, none)] (by simp; omega)
   rw [show l ++ [(p, none)].map (abs l.length inn) = l ++ [(p, inn)] from rfl] at this
   rw [this, ← tree_grow, ← lev_succ]
theorem places_spec (p : PT) : put 4 [] p 1 (-1) = if lev 3 p = true ∧ (tree 4 p).length ≤ 12 then some ((tree 4 p).map (abs 0 (-1))) else none := by
 have := put_spec 3 (by omega) [] p (-1) (by simp)
 simpa using this
end Go.Proofs.YtlndhdimamnnlaaGreatDoor



namespace Go.Proofs.YtlndhdimamnnlaaGreatDoor
theorem grow_same (f g : Nat) : ∀ (ks : List PT) (acc : List (PT × Option Nat)), (∀ k ∈ ks, tree g k = tree f k) → grow g acc ks = grow f acc ks
 | [], _, _ => rfl
 | k :: ks, acc, h => by
  rw [grow_cons, grow_cons, h k (by simp)]
  exact grow_same f g ks _ fun x hx => h x (by simp [hx])
theorem tree_fuel : ∀ (f : Nat) (p : PT), lev f p = true → ∀ g, f ≤ g → tree g p = tree f p
 | 0, p, h, _, _ => by rw [lev] at h; cases h
 | f + 1, p, h, 0, hg => by omega
 | f + 1, p, h, g + 1, hg => by
  rw [lev_succ, List.all_eq_true] at h
  rw [tree_grow, tree_grow]
  exact grow_same f g p.kids _ fun k hk => tree_fuel f k (h k hk) g (by omega)
end Go.Proofs.YtlndhdimamnnlaaGreatDoor



namespace Go.Proofs.YtlndhdimamnnlaaGreatDoor
theorem places_ok (p : PT) (h : (placesP p).1 = 0) : lev 3 p = true ∧ (tree 3 p).length ≤ 12 ∧ (placesP p).2 = (tree 3 p).map (abs 0 (-1)) ∧ firstBad (placesP p).2 = 0 := by
 have hs := places_spec p
 unfold placesP at h ⊢
 by_cases hc : lev 3 p = true ∧ (tree 4 p).length ≤ 12
 ·rw [if_pos hc] at hs
  rw [hs] at h ⊢
  simp only at h ⊢
  by_cases hb : firstBad ((tree 4 p).map (abs 0 (-1))) = 0
  ·rw [if_pos hb]
   rw [tree_fuel 3 p hc.1 4 (by omega)] at hc hb ⊢
   exact ⟨hc.1, hc.2, rfl, hb⟩
  ·rw [if_neg hb] at h; exact absurd h hb
 ·rw [if_neg hc] at hs
  rw [hs] at h
  cases h
theorem bad_each : ∀ (L : List (PT × Int)), firstBad L = 0 → ∀ x ∈ L, chkA x.1 = 0
 | [], _, x, hx => by cases hx
 | y :: L, h, x, hx => by
  rw [firstBad] at h
  split at h
  ·rename_i h0
   rcases List.mem_cons.1 hx with e | e
   ·subst e; exact h0
   ·exact bad_each L h x e
  ·rename_i h0; exact absurd h h0
end Go.Proofs.YtlndhdimamnnlaaGreatDoor



namespace Go.Proofs.YtlndhdimamnnlaaGreatDoor
def mixed : ByteArray := ⟨#[109, 117, 108, 116, 105, 112, 97, 114, 116, 47, 109, 105, 120, 101, 100]⟩
end Go.Proofs.YtlndhdimamnnlaaGreatDoor



namespace Go.Proofs.YtlndhdimamnnlaaGreatDoor
def bits6 (n : Nat) : List Nat := [n / 32 % 2, n / 16 % 2, n / 8 % 2, n / 4 % 2, n / 2 % 2, n % 2]
def flat (x : List UInt8) : List Nat := x.flatMap fun c => bits6 c.toNat
theorem flat_snoc (x : List UInt8) (c : UInt8) : flat (x ++ [c]) = flat x ++ bits6 c.toNat := by simp [flat]
theorem flat_length (x : List UInt8) : (flat x).length = 6 * x.length := by
 induction x with
 | nil => rfl
 | cons c x ih => simp [flat, bits6] at ih ⊢; omega
theorem flat_le (x : List UInt8) (i : Nat) : (flat x).getD i 0 ≤ 1 := by
 by_cases h : i < (flat x).length
 ·have e : (flat x).getD i 0 = (flat x)[i] := by simp [List.getD_eq_getElem?_getD, List.getElem?_eq_getElem h]
  rw [e]
  have hm : (flat x)[i] ∈ flat x := List.getElem_mem h
  generalize (flat x)[i] = b at hm
  unfold flat at hm
  rw [List.mem_flatMap] at hm
  obtain ⟨c, _, hc⟩ := hm
  simp [bits6] at hc
  omega
 ·rw [List.getD_eq_getElem?_getD, List.getElem?_eq_none (by omega)]
  decide
theorem flat_at (x : List UInt8) (a t : Nat) (ht : t < 6) : (flat x).getD (6 * a + t) 0 = (x.getD a 0).toNat / 2 ^ (5 - t) % 2 := by
 induction x generalizing a with
 | nil => simp [flat]
 | cons c x ih =>
  have e : flat (c :: x) = bits6 c.toNat ++ flat x := by simp [flat]
  rw [e]
  cases a with
  | zero =>
   rcases (by omega : t = 0 ∨ t = 1 ∨ t = 2 ∨ t = 3 ∨ t = 4 ∨ t = 5) with rfl | rfl | rfl | rfl | rfl | rfl <;> simp [bits6]
  | succ a =>
   have e2 : (bits6 c.toNat ++ flat x).getD (6 * (a + 1) + t) 0 = (flat x).getD (6 * a + t) 0 := by
    rw [List.getD_eq_getElem?_getD, List.getElem?_append_right (by simp [bits6]; omega), List.getD_eq_getElem?_getD]
    congr 2
    simp [bits6]
    omega
   rw [e2, ih a]
   simp
theorem joinTo_at (x : List UInt8) (M m r : Nat) (hm : m < M) (hr : r < 3) : (joinTo x M).getD (3 * m + r) 0 = (bytes3 (quad x m)).getD r 0 := by
 induction M with
 | zero => omega
 | succ M ih =>
  rw [joinTo, List.getD_eq_getElem?_getD]
  by_cases h : m < M
  ·rw [List.getElem?_append_left (by rw [joinTo_length]; omega), ← List.getD_eq_getElem?_getD]
   exact ih h
  ·obtain rfl : m = M := by omega
   rw [List.getElem?_append_right (by rw [joinTo_length]; omega), joinTo_length, show 3 * m + r - 3 * m = r from by omega, ← List.getD_eq_getElem?_getD]
theorem byte_bits (x : List UInt8) (h64 : ∀ c ∈ x, c.toNat < 64) (q : Nat) (hq : q < 3 * (x.length / 4)) :
  (((((((((flat x).getD (8 * q) 0) * 2 + (flat x).getD (8 * q + 1) 0) * 2 + (flat x).getD (8 * q + 2) 0) * 2 + (flat x).getD (8 * q + 3) 0) * 2 + (flat x).getD (8 * q + 4) 0) * 2 + (flat x).getD (8 * q + 5) 0) * 2 + (flat x).getD (8 * q + 6) 0) * 2 + (flat x).getD (8 * q + 7) 0) = ((joinS x).getD q 0).toNat := by
 have hlt : ∀ j, (x.getD j 0).toNat < 64 := by
  intro j
  by_cases hj : j < x.length
  ·have e : x.getD j 0 = x[j] := by simp [List.getD_eq_getElem?_getD, List.getElem?_eq_getElem hj]
   rw [e]; exact h64 _ (List.getElem_mem hj)
  ·rw [List.getD_eq_getElem?_getD, List.getElem?_eq_none (by omega)]; decide
 obtain ⟨m, r, hr, rfl⟩ : ∃ m r, r < 3 ∧ q = 3 * m + r := ⟨q / 3, q % 3, by omega, by omega⟩
 have hm : m < x.length / 4 := by omega
 unfold joinS
 rw [joinTo_at x _ m r hm hr]
 have key : ∀ t, t < 8 → (flat x).getD (8 * (3 * m + r) + t) 0 = (x.getD (4 * m + (8 * r + t) / 6) 0).toNat / 2 ^ (5 - (8 * r + t) % 6) % 2 := by
  intro t _
  rw [show 8 * (3 * m + r) + t = 6 * (4 * m + (8 * r + t) / 6) + (8 * r + t) % 6 from by omega]
  exact flat_at x _ _ (by omega)
 rw [show (flat x).getD (8 * (3 * m + r)) 0 = _ from key 0 (by decide), key 1 (by decide), key 2 (by decide), key 3 (by decide), key 4 (by decide), key 5 (by decide), key 6 (by decide), key 7 (by decide)]
 have h0 := hlt (4 * m); have h1 := hlt (4 * m + 1); have h2 := hlt (4 * m + 2); have h3 := hlt (4 * m + 3)
 rcases (by omega : r = 0 ∨ r = 1 ∨ r = 2) with rfl | rfl | rfl
 all_goals
  simp only [bytes3, quad, Nat.reduceMul, Nat.reduceAdd, Nat.reduceDiv, Nat.reduceMod, Nat.reduceSub, Nat.reducePow, Nat.zero_add, Nat.mul_zero, Nat.zero_div, Nat.zero_mod, Nat.sub_zero, Nat.add_zero, Nat.sub_self, Nat.pow_zero, Nat.div_one, List.getD_cons_zero, List.getD_cons_succ, UInt8.toNat_ofNat']
  generalize (x.getD (4 * m) 0).toNat = a0 at *
  generalize (x.getD (4 * m + 1) 0).toNat = a1 at *
  generalize (x.getD (4 * m + 2) 0).toNat = a2 at *
  generalize (x.getD (4 * m + 3) 0).toNat = a3 at *
  omega
theorem sp_idx (c : UInt8) : (0 ≤ Lib.indexByte [32, 9, 13, 10] c) ↔ sp c = true := by
 simp only [Lib.indexByte, sp, Bool.or_eq_true]
 by_cases h1 : c = 32
 ·subst h1; decide
 ·by_cases h2 : c = 9
  ·subst h2; decide
  ·by_cases h3 : c = 13
   ·subst h3; decide
   ·by_cases h4 : c = 10
    ·subst h4; decide
    ·have e1 : ((32 : UInt8) == c) = false := by simp; exact fun e => h1 e.symm
     have e2 : ((9 : UInt8) == c) = false := by simp; exact fun e => h2 e.symm
     have e3 : ((13 : UInt8) == c) = false := by simp; exact fun e => h3 e.symm
     have e4 : ((10 : UInt8) == c) = false := by simp; exact fun e => h4 e.symm
     simp [e1, e2, e3, e4, h1, h2, h3, h4]
end Go.Proofs.YtlndhdimamnnlaaGreatDoor



namespace Go.Proofs.YtlndhdimamnnlaaGreatDoor
def sx (L : List UInt8) (i : Nat) : UInt8 := UInt8.ofNat (val3 (trio L i) / 2 ^ (18 - 6 * (i % 4)) % 64)
theorem trio_length (L : List UInt8) (i : Nat) : (trio L i).length = min 3 (L.length - i / 4 * 3) := by
 unfold trio; rw [List.length_take, List.length_drop]
theorem idx_abc : ∀ v : Fin 64, Lib.indexByte abc (abc.getD v.val 0) = (v.val : Int) ∧ sp (abc.getD v.val 0) = false ∧ abc.getD v.val 0 ≠ 61 ∧ abc.getD v.val 0 ≠ 13 := by decide +kernel
theorem getD_ge (T : List UInt8) (i : Nat) (h : T.length ≤ i) : T.getD i 0 = 0 := by
 rw [List.getD_eq_getElem?_getD, List.getElem?_eq_none h]; rfl
theorem sx_fill (L : List UInt8) (i : Nat) (h : 8 * (trio L i).length ≤ 6 * (i % 4)) (h1 : 1 ≤ (trio L i).length) : sx L i = 0 := by
 unfold sx val3
 generalize trio L i = T at *
 have hk : i % 4 < 4 := Nat.mod_lt _ (by decide)
 generalize i % 4 = k at *
 have h2 := getD_ge T 2 (by omega)
 rw [h2]
 rcases (by omega : (k = 2 ∧ T.length = 1) ∨ k = 3) with ⟨rfl, hT⟩ | rfl
 ·have h1' := getD_ge T 1 (by omega)
  rw [h1']
  have : (T.getD 0 0).toNat * 65536 + (0 : UInt8).toNat * 256 + (0 : UInt8).toNat = (T.getD 0 0).toNat * 65536 := by simp
  rw [this, show (2 : Nat) ^ (18 - 6 * 2) = 64 from rfl, show (T.getD 0 0).toNat * 65536 / 64 % 64 = 0 from by omega]
  rfl
 ·have : ((T.getD 0 0).toNat * 65536 + (T.getD 1 0).toNat * 256 + (0 : UInt8).toNat) / 2 ^ (18 - 6 * 3) % 64 = 0 := by
   rw [show (2 : Nat) ^ (18 - 6 * 3) = 1 from rfl, show (0 : UInt8).toNat = 0 from rfl]; omega
  rw [this]
  rfl
theorem encAt_fill (L : List UInt8) (i : Nat) (h : 8 * (trio L i).length ≤ 6 * (i % 4)) : encAt L i = 61 := by
 unfold encAt letT; rw [if_pos h]
theorem sx_toNat (L : List UInt8) (i : Nat) : (sx L i).toNat = val3 (trio L i) / 2 ^ (18 - 6 * (i % 4)) % 64 := by
 unfold sx; simp; omega
theorem encAt_letter (L : List UInt8) (i : Nat) (h : ¬ 8 * (trio L i).length ≤ 6 * (i % 4)) : encAt L i = abc.getD (sx L i).toNat 0 := by
 rw [sx_toNat]; unfold encAt letT; rw [if_neg h]
theorem sx_lt (L : List UInt8) (i : Nat) : (sx L i).toNat < 64 := by rw [sx_toNat]; exact Nat.mod_lt _ (by decide)
theorem scan_append (a b : List UInt8) : ∀ st, scan (a ++ b) st = (scan a st).bind (scan b) := by
 induction a with
 | nil => intro st; rfl
 | cons c a ih =>
  intro st
  simp only [List.cons_append, scan]
  cases scanStep st c with
  | none => rfl
  | some st' => exact ih st'
def nf (n : Nat) : Nat := (n + 2) / 3 * 4 - (3 * ((n + 2) / 3) - n)
theorem scan_text (L : List UInt8) (m : Nat) (hm : m ≤ (L.length + 2) / 3 * 4) : scan (text L m) ([], 0) = some ((List.range m).map (sx L), m - nf L.length) := by
 induction m with
 | zero => simp [text, scan]
 | succ m ih =>
  have hT := trio_length L m
  have hsep : ∀ st, scan (sepAt m) st = some st := by
   intro st
   unfold sepAt
   split
   ·simp [scan, scanStep, sp]
   ·rfl
  rw [text, scan_append, ih (by omega), Option.bind_some, scan_append, hsep, Option.bind_some, List.range_succ, List.map_append, List.map_singleton]
  by_cases hf : 8 * (trio L m).length ≤ 6 * (m % 4)
  ·have hnf : nf L.length ≤ m := by unfold nf; omega
   rw [encAt_fill L m hf, sx_fill L m hf (by omega)]
   have hs : sp 61 = false := by decide
   simp only [scan, scanStep, hs, Bool.false_eq_true, if_false, if_true, Option.bind_some]
   rw [show m + 1 - nf L.length = m - nf L.length + 1 from by omega]
  ·have hnf : m < nf L.length := by unfold nf; omega
   rw [encAt_letter L m hf]
   obtain ⟨h1, h2, h3, _⟩ := idx_abc ⟨(sx L m).toNat, sx_lt L m⟩
   simp only at h1 h2 h3
   simp only [scan, scanStep, h2, Bool.false_eq_true, if_false, h3, h1]
   rw [if_neg (by omega)]
   simp only [Option.bind_some, Option.some.injEq, Prod.mk.injEq]
   refine ⟨?_, by omega⟩
   congr 2
   rw [Int.toNat_natCast]
   simp
theorem text_length_eq (L : List UInt8) (m : Nat) : (text L m).length = m + 2 * ((m - 1) / 76) := by
 induction m with
 | zero => rfl
 | succ m ih =>
  rw [text, List.length_append, List.length_append, ih]
  unfold sepAt
  split
  ·simp; omega
  ·simp; omega
theorem quad_sx (L : List UInt8) (F m : Nat) (hm : m < F) : quad ((List.range (4 * F)).map (sx L)) m = val3 (trio L (4 * m)) := by
 have hg : ∀ k, k < 4 → ((((List.range (4 * F)).map (sx L)).getD (4 * m + k) 0).toNat) = val3 (trio L (4 * m)) / 2 ^ (18 - 6 * k) % 64 := by
  intro k hk
  have e : ((List.range (4 * F)).map (sx L)).getD (4 * m + k) 0 = sx L (4 * m + k) := by
   simp [List.getD_eq_getElem?_getD, show 4 * m + k < 4 * F from by omega]
  rw [e, sx_toNat]
  have e1 : trio L (4 * m + k) = trio L (4 * m) := by unfold trio; rw [show (4 * m + k) / 4 = 4 * m / 4 from by omega]
  rw [e1, show (4 * m + k) % 4 = k from by omega]
 unfold quad
 rw [show (List.map (sx L) (List.range (4 * F))).getD (4 * m) 0 = (List.map (sx L) (List.range (4 * F))).getD (4 * m + 0) 0 from rfl, hg 0 (by decide), hg 1 (by decide), hg 2 (by decide), hg 3 (by decide)]
 have hv := val3_lt (trio L (4 * m))
 generalize val3 (trio L (4 * m)) = v at *
 simp only [Nat.reduceMul, Nat.reduceSub, Nat.reducePow, Nat.mul_zero, Nat.sub_zero, Nat.sub_self, Nat.pow_zero, Nat.div_one]
 omega
theorem bytes3_val (T : List UInt8) (r : Nat) (hr : r < 3) : (bytes3 (val3 T)).getD r 0 = T.getD r 0 := by
 have h0 := (T.getD 0 0).toNat_lt
 have h1 := (T.getD 1 0).toNat_lt
 have h2 := (T.getD 2 0).toNat_lt
 rw [← UInt8.toNat_inj]
 unfold bytes3 val3
 rcases (by omega : r = 0 ∨ r = 1 ∨ r = 2) with rfl | rfl | rfl
 all_goals
  simp only [List.getD_cons_zero, List.getD_cons_succ, UInt8.toNat_ofNat']
  omega
theorem join_back (L : List UInt8) : (joinS ((List.range ((L.length + 2) / 3 * 4)).map (sx L))).length = 3 * ((L.length + 2) / 3) ∧
  ∀ i, i < 3 * ((L.length + 2) / 3) → (joinS ((List.range ((L.length + 2) / 3 * 4)).map (sx L))).getD i 0 = L.getD i 0 := by
 generalize hF : (L.length + 2) / 3 = F
 have e : F * 4 = 4 * F := by omega
 rw [e]
 unfold joinS
 rw [List.length_map, List.length_range, show 4 * F / 4 = F from by omega]
 refine ⟨joinTo_length _ _, fun i hi => ?_⟩
 obtain ⟨m, r, hr, rfl⟩ : ∃ m r, r < 3 ∧ i = 3 * m + r := ⟨i / 3, i % 3, by omega, by omega⟩
 rw [joinTo_at _ F m r (by omega) hr, quad_sx L F m (by omega), bytes3_val _ r hr, trio_getD L (4 * m) r hr, show 4 * m / 4 * 3 = 3 * m from by omega]
theorem read_encode (L : List UInt8) (h : L.length ≤ 4000) : readS (encode L) = (L, 0) := by
 have hlen : (encode L).length ≤ 8000 := by unfold encode; rw [text_length_eq]; omega
 have hsc : scan (encode L) ([], 0) = some ((List.range ((L.length + 2) / 3 * 4)).map (sx L), 3 * ((L.length + 2) / 3) - L.length) := by
  unfold encode
  rw [scan_text L _ (Nat.le_refl _), show (L.length + 2) / 3 * 4 - nf L.length = 3 * ((L.length + 2) / 3) - L.length from by unfold nf; omega]
 have hdg : digitsS (encode L) = some ((List.range ((L.length + 2) / 3 * 4)).map (sx L), 3 * ((L.length + 2) / 3) - L.length) := by
  unfold digitsS
  rw [hsc, Option.bind_some, if_neg (by simp only [List.length_map, List.length_range]; omega)]
 obtain ⟨hl, hg⟩ := join_back L
 have hcut : cutS (joinS ((List.range ((L.length + 2) / 3 * 4)).map (sx L))) (3 * ((L.length + 2) / 3) - L.length) = some L := by
  generalize joinS ((List.range ((L.length + 2) / 3 * 4)).map (sx L)) = J at hl hg
  unfold cutS
  rw [hl, show 3 * ((L.length + 2) / 3) - (3 * ((L.length + 2) / 3) - L.length) = L.length from by omega]
  have hz : (J.drop L.length).all (· == 0) = true := by
   rw [List.all_eq_true]
   intro x hx
   obtain ⟨i, hi, rfl⟩ := List.mem_iff_getElem.1 hx
   rw [List.length_drop] at hi
   have := hg (L.length + i) (by omega)
   rw [getD_ge L (L.length + i) (by omega), List.getD_eq_getElem?_getD, List.getElem?_eq_getElem (show L.length + i < J.length by omega)] at this
   simpa using this
  rw [if_pos hz]
  congr 1
  apply List.ext_getElem
  ·rw [List.length_take]; omega
  ·intro i h1 h2
   have := hg i (by omega)
   rw [List.getD_eq_getElem?_getD, List.getElem?_eq_getElem (show i < J.length by omega), List.getD_eq_getElem?_getD, List.getElem?_eq_getElem h2] at this
   simpa using this
 unfold readS
 rw [if_neg (by omega), hdg]
 simp only [hcut]
 rw [if_neg (by omega)]
end Go.Proofs.YtlndhdimamnnlaaGreatDoor



namespace Go.Proofs.YtlndhdimamnnlaaGreatDoor
end Go.Proofs.YtlndhdimamnnlaaGreatDoor


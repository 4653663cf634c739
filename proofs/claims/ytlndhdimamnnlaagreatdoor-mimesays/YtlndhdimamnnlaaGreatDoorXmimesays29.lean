
import Derived.Test.YtlndhdimamnnlaaGreatDoorXmimesays28
import Derived.Test.YtlndhdimamnnlaaGreatDoorXmimesays27
import Derived.Lib.AppendIntMem
namespace Go.Proofs.YtlndhdimamnnlaaGreatDoor
def linesOf (gs : List (List UInt8)) : List UInt8 := gs.flatMap fun g => qs g ++ [61, 13, 10]
theorem qst_groups (L : List UInt8) : ∀ k, k ≤ L.length → ∃ gs h, qst L k = (linesOf gs, qs h) ∧ gs.flatten ++ h = L.take k ∧ (∀ g ∈ gs, 25 ≤ g.length ∧ (qs g).length ≤ 75) ∧ (qs h).length ≤ 75 := by
 intro k
 induction k with
 | zero => intro _; exact ⟨[], [], rfl, by simp, by simp, by simp [qs]⟩
 | succ k ih =>
  intro hk
  obtain ⟨gs, h, e, e2, h3, h4⟩ := ih (by omega)
  have hg : L.getD k 0 = L[k] := by simp [List.getD_eq_getElem?_getD, List.getElem?_eq_getElem (show k < L.length by omega)]
  have ht : L.take (k + 1) = L.take k ++ [L[k]] := by rw [List.take_append_getElem]
  rw [qst, e, qstep, hg, ht, ← e2]
  generalize L[k] = c
  have hq := q1_length c
  have ec : qs [c] = q1 c := by simp [qs]
  simp only
  split
  ·rename_i hw
   refine ⟨gs ++ [h], [c], ?_, by simp, ?_, by rw [ec]; omega⟩
   ·simp [linesOf, ec]
   ·intro g hg
    rw [List.mem_append] at hg
    rcases hg with hg | hg
    ·exact h3 g hg
    ·simp at hg
     subst hg
     have := qs_length g
     exact ⟨by omega, h4⟩
  ·rename_i hw
   refine ⟨gs, h ++ [c], ?_, by simp, h3, ?_⟩
   ·rw [qs_append, ec]
   ·rw [qs_append, ec, List.length_append]; omega
theorem linesOf_rend : ∀ (gs : List (List UInt8)) (h : List UInt8), ∃ k v, linesOf gs ++ qs h = rendG k v ∧ k :: v = gs ++ [h] := by
 intro gs
 induction gs with
 | nil => intro h; exact ⟨h, [], by simp [linesOf, rendG], rfl⟩
 | cons g gs ih =>
  intro h
  obtain ⟨k, v, e1, e2⟩ := ih h
  refine ⟨g, k :: v, ?_, ?_⟩
  ·rw [rendG, ← e1]; simp [linesOf]
  ·rw [e2]; rfl
theorem enc_lines (L : List UInt8) : ∃ g t, encQ L = rendG g t ∧ (g :: t).flatten = L ∧ (∀ x ∈ g :: t, (qs x).length ≤ 75) ∧ 25 * t.length ≤ L.length := by
 obtain ⟨gs, h, e, e2, h3, h4⟩ := qst_groups L L.length (Nat.le_refl _)
 obtain ⟨k, v, e3, e4⟩ := linesOf_rend gs h
 refine ⟨k, v, ?_, ?_, ?_, ?_⟩
 ·unfold encQ; rw [e]; exact e3
 ·rw [e4]; simpa using e2
 ·intro x hx
  rw [e4, List.mem_append] at hx
  rcases hx with hx | hx
  ·exact (h3 x hx).2
  ·simp at hx; subst hx; exact h4
 ·have hv : v.length = gs.length := by have := congrArg List.length e4; simpa using this
  have hl : gs.flatten.length ≤ L.length := by have := congrArg List.length e2; simp only [List.length_append, List.take_length] at this; omega
  rw [hv]
  refine Nat.le_trans ?_ hl
  clear e e2 e3 e4 hv hl
  induction gs with
  | nil => simp
  | cons g gs ih =>
   have := (h3 g (by simp)).1
   have := ih (fun x hx => h3 x (by simp [hx]))
   simp only [List.flatten_cons, List.length_append, List.length_cons]
   omega
theorem rend_length : ∀ (t : List (List UInt8)) (g : List UInt8), (rendG g t).length ≤ 3 * (g :: t).flatten.length + 3 * t.length := by
 intro t
 induction t with
 | nil => intro g; have := qs_length g; simp [rendG]; omega
 | cons h t ih => intro g; have := ih h; have := qs_length g; simp [rendG] at *; omega
theorem enc_length (L : List UInt8) : 25 * (encQ L).length ≤ 78 * L.length := by
 obtain ⟨g, t, e, e2, _, h4⟩ := enc_lines L
 have := rend_length t g
 rw [e2, ← e] at this
 omega
theorem readQ_enc (L : List UInt8) (h : L.length ≤ 4000) : readQ (encQ L) = (L, 0) := by
 have hl := enc_length L
 obtain ⟨g, t, e, e2, _, _⟩ := enc_lines L
 rw [e] at hl ⊢
 rw [readQ_rend g t (by rw [e2]; exact h) (by omega), e2]
end Go.Proofs.YtlndhdimamnnlaaGreatDoor



namespace Go.Proofs.YtlndhdimamnnlaaGreatDoor
def brT (ts : List (List UInt8)) : List UInt8 := brd (leastP ts)
def textP : Nat → PT → List UInt8
 | 0, _ => []
 | f + 1, p => if manyS p.ty.data.toList = true then headP p (brT (p.kids.map (textP f))) ++ ((p.kids.map (textP f)).flatMap (pieceT (brT (p.kids.map (textP f)))) ++ lastT (brT (p.kids.map (textP f)))) else headP p [] ++ encP p
def nodesP : Nat → PT → Nat
 | 0, _ => 0
 | f + 1, p => 1 + (p.kids.map (nodesP f)).sum
def goodP : Nat → PT → Prop
 | 0, _ => False
 | f + 1, p => chkA p = 0 ∧ ∀ k ∈ p.kids, goodP f k
theorem chkA_facts {p : PT} (h : chkA p = 0) : textsOk p = true ∧ 0 ≤ p.how ∧ p.how ≤ 2 ∧ p.body.length ≤ 4000 ∧ formedP p = true := by
 unfold chkA at h
 split at h
 ·cases h
 ·split at h
  ·cases h
  ·split at h
   ·cases h
   ·split at h
    ·cases h
    ·rename_i h1 h2 h3 h4
     exact ⟨by simpa using h1, by omega, by omega, by omega, by simpa using h4⟩
theorem formed_many {p : PT} (h : formedP p = true) (hm : manyS p.ty.data.toList = true) : p.kids ≠ [] ∧ p.body = [] ∧ p.how = 0 ∧ p.cs.data.toList = [] := by
 unfold formedP at h
 rw [if_pos hm] at h
 simp only [Bool.and_eq_true, Bool.not_eq_true', List.isEmpty_iff, decide_eq_true_eq] at h
 exact ⟨by intro e; rw [e] at h; simp at h, h.1.1.2, h.1.2, h.2⟩
theorem formed_one {p : PT} (h : formedP p = true) (hm : manyS p.ty.data.toList = false) : p.kids = [] := by
 unfold formedP at h
 rw [if_neg (by rw [hm]; decide)] at h
 simpa using h
theorem sum_le {α : Type} (g : α → List UInt8) (n : α → Nat) : ∀ ks : List α, (∀ k ∈ ks, (g k).length + 100 ≤ 20000 * n k) → ((ks.map g).map List.length).sum ≤ 20000 * (ks.map n).sum ∧ ∀ br : List UInt8, br.length ≤ 9 → ((ks.map g).flatMap (pieceT br)).length ≤ 20000 * (ks.map n).sum
 | [], _ => by simp
 | k :: ks, h => by
  obtain ⟨h1, h2⟩ := sum_le g n ks (fun x hx => h x (by simp [hx]))
  have h3 := h k (by simp)
  refine ⟨by simp only [List.map_cons, List.sum_cons]; omega, fun br hb => ?_⟩
  have h4 := h2 br hb
  simp only [List.map_cons, List.flatMap_cons, List.sum_cons, List.length_append, pieceT, dd, crlf2, List.length_cons, List.length_nil] at h4 ⊢
  omega
theorem fields_few (p : PT) (br : List UInt8) : (fieldsP p br).length ≤ 4 := by
 unfold fieldsP
 split <;> split <;> split <;> simp
theorem head_len {p : PT} (h : textsOk p = true) {br : List UInt8} (hb : BrTok br) : (headP p br).length ≤ 3738 := by
 obtain ⟨h1, h2⟩ := checkF_facts (fields_check h hb)
 have h3 := textF_le _ h2
 have h4 := fields_few p br
 unfold headP
 omega
theorem brTok_nil : BrTok [] := ⟨by simp, by simp⟩
theorem brd_tok (n : Int) (h1 : 1 ≤ n) (h2 : n < 10000000) : BrTok (brd n) ∧ BrOk (brd n) ∧ (brd n).length ≤ 9 := by
 obtain ⟨a, b, c⟩ := brd_facts n h1 h2
 refine ⟨⟨by omega, fun x hx => ?_⟩, ⟨a, fun x hx => ?_⟩, b⟩
 ·rcases c x hx with h | rfl | rfl
  ·exact ⟨by omega, by omega, by rintro rfl; exact absurd h (by decide)⟩
  ·decide
  ·decide
 ·rcases c x hx with h | rfl | rfl
  ·rw [← Bool.not_eq_true]
   intro e
   simp [endC] at e
   rcases e with rfl | rfl | rfl | rfl <;> exact absurd h (by decide)
  ·decide
  ·decide
theorem encP_len {p : PT} (h : p.body.length ≤ 4000) : (encP p).length ≤ 16008 := by
 unfold encP
 split
 ·have := encode_length p.body; omega
 ·split
  ·have := enc_length p.body; omega
  ·omega
theorem sum_mem (f : Nat) : ∀ (ks : List PT), ∀ k ∈ ks, nodesP f k ≤ (ks.map (nodesP f)).sum
 | [], k, h => by simp at h
 | x :: ks, k, h => by
  rw [List.map_cons, List.sum_cons]
  rcases List.mem_cons.1 h with rfl | h
  ·omega
  ·have := sum_mem f ks k h; omega
theorem text_len : ∀ (f : Nat) (p : PT), goodP f p → nodesP f p ≤ 12 → (textP f p).length + 100 ≤ 20000 * nodesP f p
 | 0, _, h, _ => absurd h (by rw [goodP]; exact id)
 | f + 1, p, hg, hn => by
  rw [goodP] at hg
  rw [nodesP] at hn ⊢
  obtain ⟨a1, a2, a3, a4, a5⟩ := chkA_facts hg.1
  have hk : ∀ k ∈ p.kids, (textP f k).length + 100 ≤ 20000 * nodesP f k := fun k hk => text_len f k (hg.2 k hk) (by have := sum_mem f p.kids k hk; omega)
  obtain ⟨s1, s2⟩ := sum_le (textP f) (nodesP f) p.kids hk
  rw [textP]
  split
  ·obtain ⟨l1, l2⟩ := least_range (p.kids.map (textP f))
   obtain ⟨b1, b2, b3⟩ := brd_tok (leastP (p.kids.map (textP f))) l1 (by omega)
   have h1 := head_len a1 b1
   have h2 := s2 _ b3
   unfold brT
   simp only [List.length_append, lastT, dd, crlf2, List.length_cons, List.length_nil] at h1 h2 ⊢
   omega
  ·have h1 := head_len a1 brTok_nil
   have h2 := encP_len a4
   rw [List.length_append]
   omega
theorem readAll_texts (f : Nat) : ∀ (ks : List PT) (n : Nat) (acc : List PT), (∀ k ∈ ks, ∀ m, m + nodesP f k ≤ 12 → readP f (textP f k) m = (0, k, m + nodesP f k)) → n + (ks.map (nodesP f)).sum ≤ 12 → readAll (readP f) (ks.map (textP f)) n acc = (0, acc ++ ks, n + (ks.map (nodesP f)).sum)
 | [], n, acc, _, _ => by simp [readAll]
 | k :: ks, n, acc, h, hn => by
  simp only [List.map_cons, List.sum_cons] at hn ⊢
  rw [readAll, h k (by simp) n (by omega), if_pos rfl]
  simp only
  rw [readAll_texts f ks (n + nodesP f k) (acc ++ [k]) (fun x hx => h x (by simp [hx])) (by omega)]
  simp [Nat.add_assoc]
theorem pt_mk {p : PT} (main : List UInt8) (fs : List Fld) (h1 : main = p.ty.data.toList) (h2 : bareI (getN nmID fs) = p.id.data.toList) (h3 : getN nmLoc fs = p.loc.data.toList) : partOf main fs = ⟨p.ty, ⟨#[]⟩, p.id, p.loc, 0, [], []⟩ := by
 unfold partOf
 rw [h1, h2, h3]
 rfl
theorem dec_enc {p : PT} (h0 : 0 ≤ p.how) (h2 : p.how ≤ 2) (h4 : p.body.length ≤ 4000) : decP (howTx p.how) (encP p) = (p.how.toNat, p.body, 0) := by
 have hc : p.how = 0 ∨ p.how = 1 ∨ p.how = 2 := by omega
 unfold decP howTx encP
 rcases hc with e | e | e
 ·rw [e]
  simp only [show ¬ (0 : Int) = 1 by decide, show ¬ (0 : Int) = 2 by decide, if_false]
  rw [low_how0, show howOf how0 = some 0 by decide]
  simp only
  rw [if_neg (by omega)]
  rfl
 ·rw [e]
  simp only [if_true]
  rw [low_how1, show howOf how1 = some 1 by decide]
  simp only
  rw [read_encode p.body h4]
  rfl
 ·rw [e]
  simp only [show ¬ (2 : Int) = 1 by decide, if_false, if_true]
  rw [low_how2, show howOf how2 = some 2 by decide]
  simp only
  rw [readQ_enc p.body h4]
  rfl
theorem read_text : ∀ (f : Nat) (p : PT) (n : Nat), goodP f p → n + nodesP f p ≤ 12 → (textP f p).length ≤ 40000 → readP f (textP f p) n = (0, p, n + nodesP f p)
 | 0, _, _, h, _, _ => absurd h (by rw [goodP]; exact id)
 | f + 1, p, n, hg, hn, hl => by
  have hg0 := hg
  rw [goodP] at hg
  have htl := text_len (f + 1) p hg0 (by omega)
  rw [nodesP] at hn ⊢
  obtain ⟨a1, a2, a3, a4, a5⟩ := chkA_facts hg.1
  obtain ⟨ht, hcs, -, -⟩ := texts_ok a1
  rw [textP] at hl ⊢
  cases hm : manyS p.ty.data.toList with
  | true =>
   obtain ⟨m1, m2, m3, m4⟩ := formed_many a5 hm
   rw [hm, if_pos rfl] at hl
   rw [if_pos rfl]
   have hk : ∀ k ∈ p.kids, (textP f k).length + 100 ≤ 20000 * nodesP f k := fun k hk => text_len f k (hg.2 k hk) (by have := sum_mem f p.kids k hk; omega)
   obtain ⟨s1, s2⟩ := sum_le (textP f) (nodesP f) p.kids hk
   obtain ⟨l1, l2⟩ := least_range (p.kids.map (textP f))
   obtain ⟨b1, b2, b3⟩ := brd_tok (leastP (p.kids.map (textP f))) l1 (by omega)
   have hfree := least_border (p.kids.map (textP f)) (by omega)
   have ebr : brT (p.kids.map (textP f)) = brd (leastP (p.kids.map (textP f))) := rfl
   rw [← ebr] at b1 b2 b3 hfree
   generalize hbr : brT (p.kids.map (textP f)) = br at *
   generalize hts : p.kids.map (textP f) = ts at *
   have hsplit : splitS (ts.flatMap (pieceT br) ++ lastT br) br = (ts, 0) := by
    have := splitS_all br [] b2 (by omega) ts hfree (by rw [List.append_nil]; rw [List.length_append] at hl; omega)
    rw [List.append_nil] at this
    exact this
   have hkid : ∀ k ∈ p.kids, (textP f k).length ≤ 40000 := by
    intro k hk
    have hin : textP f k ∈ ts := by rw [← hts]; exact List.mem_map_of_mem hk
    have : ∀ (l : List (List UInt8)) (t : List UInt8), t ∈ l → t.length ≤ (l.flatMap (pieceT br)).length := by
     intro l
     induction l with
     | nil => intro t h; simp at h
     | cons x l ih =>
      intro t h
      rw [List.flatMap_cons, List.length_append]
      rcases List.mem_cons.1 h with rfl | h
      ·simp [pieceT]; omega
      ·have := ih t h; omega
    have h3 := this ts _ hin
    rw [List.length_append, List.length_append] at hl
    omega
   have hall := readAll_texts f p.kids (n + 1) [] (fun k hk m hm => read_text f k m (hg.2 k hk) hm (hkid k hk)) (by omega)
   rw [hts] at hall
   rw [readP, if_neg (by omega), head_read a1 b1 _ hl, if_neg (by simp)]
   simp only
   rw [kindOf_nil p br ht, params_br a1 m4 b1 b2.1, if_neg (by simp)]
   simp only
   rw [if_pos hm, List.drop_left' rfl]
   have hgb : getN nmBound [(nmBound, br)] = br := by unfold getN; simp only [List.find?_cons, e_bb]
   rw [hgb, hsplit, if_neg (by simp)]
   simp only
   rw [hall, if_neg (by simp)]
   simp only
   rw [pt_mk (p := p) _ _ rfl (by rw [get_id, bare_id]) (get_loc p br)]
   have hcs0 : p.cs = ⟨#[]⟩ := by rw [← ba_self p.cs, m4]; rfl
   obtain ⟨ty, cs, id, loc, how, body, kids⟩ := p
   simp only at m2 m3 hcs0
   subst m2 m3 hcs0
   simp [Nat.add_assoc]
  | false =>
   have hk := formed_one a5 hm
   rw [hm, if_neg (by decide)] at hl
   rw [if_neg (by decide)]
   have hde := dec_enc a2 a3 a4
   rw [readP, if_neg (by omega), head_read a1 brTok_nil _ hl, if_neg (by simp)]
   simp only
   rw [kindOf_nil p [] ht]
   have hpar : ∃ PS, paramsF (kindP p []) = (p.ty.data.toList, PS, 0) ∧ getN nmChar PS = p.cs.data.toList := by
    by_cases hc : p.cs.data.toList = []
    ·exact ⟨[], params_none a1 hc, by rw [hc]; rfl⟩
    ·exact ⟨_, params_cs a1 hc, by unfold getN; simp only [List.find?_cons, e_cc]⟩
   obtain ⟨PS, hp1, hp2⟩ := hpar
   rw [hp1, if_neg (by simp)]
   simp only
   rw [if_neg (by rw [hm]; decide), List.drop_left' rfl, get_how, hde, if_neg (by simp), hp2]
   simp only
   rw [pt_mk (p := p) _ _ rfl (by rw [get_id, bare_id]) (get_loc p [])]
   have hhow : ((p.how.toNat : Nat) : Int) = p.how := by omega
   rw [hhow, ba_self, hk]
   obtain ⟨ty, cs, id, loc, how, body, kids⟩ := p
   simp only at hk
   subst hk
   simp
theorem grow_nodes (f : Nat) (ih : ∀ k, (tree f k).length = nodesP f k) : ∀ (ks : List PT) (acc : List (PT × Option Nat)), (grow f acc ks).length = acc.length + (ks.map (nodesP f)).sum
 | [], acc => by rw [grow_nil]; simp
 | k :: ks, acc => by
  rw [grow_cons, grow_nodes f ih ks, List.length_append, List.length_map, ih k, List.map_cons, List.sum_cons]
  omega
theorem tree_nodes : ∀ (f : Nat) (p : PT), (tree f p).length = nodesP f p
 | 0, p => by rw [tree, nodesP]; rfl
 | f + 1, p => by
  rw [tree_grow, grow_nodes f (tree_nodes f), nodesP]
  rfl
theorem grow_mem (f : Nat) : ∀ (ks : List PT) (acc : List (PT × Option Nat)), (∀ x ∈ acc, x ∈ grow f acc ks) ∧ ∀ k ∈ ks, ∀ x ∈ tree f k, ∃ y ∈ grow f acc ks, y.1 = x.1
 | [], acc => ⟨fun x h => h, fun k h => by simp at h⟩
 | k :: ks, acc => by
  obtain ⟨h1, h2⟩ := grow_mem f ks (acc ++ (tree f k).map (sub acc.length))
  rw [grow_cons]
  refine ⟨fun x h => h1 x (List.mem_append_left _ h), fun k' hk' x hx => ?_⟩
  rcases List.mem_cons.1 hk' with rfl | hk'
  ·exact ⟨sub acc.length x, h1 _ (List.mem_append_right _ (List.mem_map_of_mem hx)), rfl⟩
  ·exact h2 k' hk' x hx
theorem good_of : ∀ (f : Nat) (p : PT), lev f p = true → (∀ x ∈ tree f p, chkA x.1 = 0) → goodP f p
 | 0, p, h, _ => by rw [lev] at h; cases h
 | f + 1, p, h, hc => by
  rw [goodP]
  rw [lev_succ] at h
  rw [tree_grow] at hc
  obtain ⟨h1, h2⟩ := grow_mem f p.kids [(p, none)]
  refine ⟨hc _ (h1 (p, none) (by simp)), fun k hk => good_of f k (List.all_eq_true.1 h k hk) (fun x hx => ?_)⟩
  obtain ⟨y, hy, e⟩ := h2 k hk x hx
  rw [← e]
  exact hc y hy
theorem good_places {p : PT} (h : (placesP p).1 = 0) : goodP 3 p ∧ nodesP 3 p ≤ 12 := by
 obtain ⟨h1, h2, h3, h4⟩ := places_ok p h
 refine ⟨good_of 3 p h1 (fun x hx => ?_), by rw [← tree_nodes]; exact h2⟩
 rw [h3] at h4
 exact bad_each _ h4 (abs 0 (-1) x) (List.mem_map_of_mem hx)
def writeM (p : PT) : Nat × List UInt8 :=
 if (placesP p).1 ≠ 0 then ((placesP p).1, []) else if 40000 < (textP 3 p).length then (2, []) else (0, textP 3 p)
theorem writeM_ok {p : PT} (h : (writeM p).1 = 0) : (placesP p).1 = 0 ∧ (textP 3 p).length ≤ 40000 ∧ (writeM p).2 = textP 3 p := by
 unfold writeM at h ⊢
 by_cases h1 : (placesP p).1 ≠ 0
 ·rw [if_pos h1] at h; exact absurd h h1
 ·rw [if_neg h1] at h ⊢
  by_cases h2 : 40000 < (textP 3 p).length
  ·rw [if_pos h2] at h; cases h
  ·rw [if_neg h2]
   exact ⟨by simpa using h1, by omega, rfl⟩
theorem read_write {p : PT} (h : (writeM p).1 = 0) : readM (writeM p).2 = (0, p) := by
 obtain ⟨h1, h2, h3⟩ := writeM_ok h
 obtain ⟨g1, g2⟩ := good_places h1
 rw [h3]
 unfold readM
 rw [if_neg (by omega), read_text 3 p 0 g1 (by omega) h2, if_neg (by simp), if_neg (by simp only; rw [h1]; simp)]
end Go.Proofs.YtlndhdimamnnlaaGreatDoor



namespace Go.Proofs.YtlndhdimamnnlaaGreatDoor
open Go.RowKit
def TEnv (w0 : World) : Prop := ∀ w', Below w0.heap.size w0 w' → HowTab w' ∧ (∃ M : Int, w'.cell? ⟨1, 0, none⟩ = some (.int .i64 M)) ∧ Lib.TabIs Tryz.prog w' "internal/strconv.uint64pow10" .u64 Lib.pow10Tab
theorem TEnv.below {w0 w : World} (h : TEnv w0) (hb : Below w0.heap.size w0 w) : TEnv w := fun w' hb' => h w' (hb.trans (hb'.mono hb.size))
def stv (l : List ByteArray) : List Value := l.map Value.string
theorem stv_snoc (l : List ByteArray) (s : ByteArray) : stv (l ++ [s]) = stv l ++ [.string s] := by simp [stv]
theorem info_strM : (Tryz.prog.info? 9).map (fun i => (i.zero, i.size, i.bytes)) = some (some (.string ⟨#[]⟩), 1, 16) := by kernel_rfl
theorem owned_texts {w : World} {B : Nat} {v : Value} {l : List ByteArray} (h : w.ownsRow B 9 1 v l.length (stv l)) : ∃ p c, v = .slice p l.length c ∧ l.length ≤ c ∧ c ≤ maxLen ∧ TRow w p l := by
 have h' := h
 rcases h.2 with ⟨rfl, h0⟩ | ⟨g, cap, cur, rfl, hg, hh, hnc, hcp, hcs, htake⟩
 ·exact ⟨none, 0, by rw [h0], by omega, by decide, fun hne => absurd (List.length_eq_zero_iff.1 h0) hne⟩
 ·refine ⟨some ⟨g, 0, none⟩, cap, rfl, hnc, hcp, fun _ => ⟨g, 0, rfl, fun i hi => ?_⟩⟩
  rw [Nat.zero_add, h'.cellAt i (by omega)]
  simp [stv, hi, List.getD_eq_getElem?_getD]
theorem TRow.under {w w' : World} {p : Option Addr} {l : List ByteArray} (h : TRow w p l) (hb : Below w.heap.size w w') : TRow w' p l := by
 intro hne
 obtain ⟨b, o, rfl, hc⟩ := h hne
 refine ⟨b, o, rfl, fun i hi => ?_⟩
 have := hc i hi
 rw [hb.cell (p := ⟨b, o + i, none⟩) (World.block_lt_of_cell? w _ this)]
 exact this
set_option maxHeartbeats 2000000 in
set_option maxRecDepth 100000 in
theorem text_one (b o F : Nat) (p : PT) (w : World) (hE : TEnv w) (hP : PAt w F b o p) (hg : chkA p = 0) (hm : manyS p.ty.data.toList = false) :
  Calls Tryz.prog 24 #[.pointer (some ⟨b, o, none⟩)] w fun e w' => e = .returned (.string (ba (headP p [] ++ encP p))) ∧ Below w.heap.size w w' := by
 obtain ⟨a1, a2, a3, a4, a5⟩ := chkA_facts hg
 have CH : Hid (Calls Tryz.prog 58 #[.pointer (some ⟨b, o, none⟩), .string ⟨#[]⟩] w fun e w' => e = .returned (.string (ba (headP p []))) ∧ Below w.heap.size w w') := head_any b o F p ⟨#[]⟩ w hP (hE w (Below.refl _ _)).1 a2 a3 a1 brTok_nil
 have CE : Hid (∀ W, Below w.heap.size w W → Calls Tryz.prog 59 #[.pointer (some ⟨b, o, none⟩)] W fun e w' => e = .returned (.string (ba (encP p))) ∧ Below W.heap.size W w') := fun W hb => enc_any b o F p W (hP.below hb) a4
 have CM : Hid (Calls Tryz.prog 57 #[.string p.ty] w fun e w' => e = .returned (.bool false) ∧ w' = w) := by
  have := pmany_any p.ty w
  rw [hm] at this
  exact this
 obtain ⟨pb, cb, pk, ck, ⟨c0, -⟩, -⟩ := hP
 have s1 : (ba (headP p [])).size ≤ 3738 := by rw [ba_size]; exact head_len a1 brTok_nil
 have s2 : (ba (encP p)).size ≤ 16008 := by rw [ba_size]; exact encP_len a4
 have HX : Hid (ba (headP p [] ++ encP p) = ba (headP p []) ++ ba (encP p)) := by unfold Hid ba; apply ByteArray.ext; simp
 clear hE hg hm a1 a2 a3 a4 a5
 generalize ba (headP p []) = H at *
 generalize ba (encP p) = E at *
 generalize ba (headP p [] ++ encP p) = R at *
 go_enter Tryz.func24, Tryz.ntmps24
 go_wp2_with fail
 refine CM.out.mono ?_
 rintro e w1 ⟨rfl, hw1⟩
 have hw2 := hw1.symm
 subst hw2
 clear CM
 go_wp2_with fail
 refine CH.out.mono ?_
 rintro e w2 ⟨rfl, hb2⟩
 clear CH
 go_wp2_with fail
 refine (CE.out _ hb2).mono ?_
 rintro e w3 ⟨rfl, hb3⟩
 clear CE
 have hbe : Below w.heap.size w w3 := hb2.trans (hb3.mono hb2.size)
 clear hb2 hb3
 go_wp2_with fail
 go_ret
 exact ⟨by rw [HX.out]; rfl, hbe⟩
end Go.Proofs.YtlndhdimamnnlaaGreatDoor



namespace Go.Proofs.YtlndhdimamnnlaaGreatDoor
def splL (border : List UInt8) : List (List UInt8) → Option (List UInt8) → List (List UInt8) → Option (List (List UInt8))
 | [], _, _ => none
 | l :: ls, cur, out => if bareL l = dd ++ border ++ dd then some (closed cur out) else if bareL l = dd ++ border then splL border ls (some []) (closed cur out) else splL border ls (cur.map (· ++ l)) out
theorem lineN_all : ∀ (a : List UInt8), (∀ c ∈ a, c ≠ 10) → lineN a = a.length
 | [], _ => rfl
 | c :: a, h => by rw [lineN, if_neg (h c (by simp)), lineN_all a (fun x hx => h x (by simp [hx]))]; rfl
theorem splL_lines (border : List UInt8) : ∀ (n : Nat) (L : List UInt8) (cur : Option (List UInt8)) (out : List (List UInt8)) (f : Nat), L.length ≤ n → L.length < f → splL border (Lib.splitK [10] 1 (Lib.count L [10]) L) cur out = splitGo border f L cur out := by
 intro n
 induction n with
 | zero =>
  intro L cur out f h1 h2
  obtain rfl : L = [] := List.length_eq_zero_iff.1 (by omega)
  rw [split_last [] (by simp), splitGo_nil, splL, if_neg (by simp [bareL, dropEnd, dd]), if_neg (by simp [bareL, dropEnd, dd]), splL]
 | succ n ih =>
  intro L cur out f h1 h2
  obtain ⟨f', rfl⟩ : ∃ f', f = f' + 1 := ⟨f - 1, by omega⟩
  by_cases hm : (10 : UInt8) ∈ L
  ·obtain ⟨a, r, rfl, ha⟩ := mem10 L hm
   have hl : (a ++ 10 :: r).length = a.length + 1 + r.length := by simp; omega
   rw [split_ten a r ha, splL, splitGo, if_neg (show ¬ (a ++ 10 :: r = []) by simp), lineN_at a r ha, take10_at, drop10_at, ih r _ _ f' (by omega) (by omega), ih r _ _ f' (by omega) (by omega)]
  ·have ha : ∀ c ∈ L, c ≠ 10 := fun c hc e => hm (e ▸ hc)
   by_cases h0 : L = []
   ·subst h0
    rw [split_last [] (by simp), splitGo_nil, splL, if_neg (by simp [bareL, dropEnd, dd]), if_neg (by simp [bareL, dropEnd, dd]), splL]
   ·rw [split_last L ha, splL, splitGo, if_neg h0, lineN_all L ha, List.take_length, List.drop_length, splitGo_nil, splitGo_nil, splL, splL]
theorem splitK_sum (L : List UInt8) : ∀ (n : Nat), L.length ≤ n → (Lib.splitK [10] 1 (Lib.count L [10]) L).flatten = L := by
 intro n
 induction n generalizing L with
 | zero =>
  intro h
  obtain rfl : L = [] := List.length_eq_zero_iff.1 (by omega)
  rw [split_last [] (by simp)]; simp
 | succ n ih =>
  intro h
  by_cases hm : (10 : UInt8) ∈ L
  ·obtain ⟨a, r, rfl, ha⟩ := mem10 L hm
   have hl : (a ++ 10 :: r).length = a.length + 1 + r.length := by simp; omega
   rw [split_ten a r ha, List.flatten_cons, ih r (by omega)]
   simp
  ·rw [split_last L (fun c hc e => hm (e ▸ hc))]; simp
end Go.Proofs.YtlndhdimamnnlaaGreatDoor



namespace Go.Proofs.YtlndhdimamnnlaaGreatDoor
open Go.RowKit
theorem splitAfter_any (s : ByteArray) (m : Int) (w : World) (hs : s.size ≤ 1000000) (hm : w.cell? ⟨1, 0, none⟩ = some (.int .i64 m)) :
  Calls Tryz.prog 49 #[.string s, .string ⟨#[10]⟩] w fun e w' => ∃ xs : List ByteArray, xs.map (·.data.toList) = Lib.splitK [10] 1 (Lib.count s.data.toList [10]) s.data.toList ∧ xs.length ≤ 1000001 ∧
   e = .returned (.slice (some ⟨w.heap.size, 0, none⟩) xs.length xs.length) ∧ w' = w.alloc (.cells (xs.map Value.string).toArray 9) := by
 have hlen := Lib.splitB_all ⟨#[10]⟩ (by decide) 1 _ s rfl
 have hcl := Lib.countB_le ⟨#[10]⟩ (by decide) s.size s (Nat.le_refl _)
 have hd := Lib.splitB_data ⟨#[10]⟩ 1 (Lib.countB s ⟨#[10]⟩) s
 have c := Tryz.strings_genSplit s ⟨#[10]⟩ 1 (-1) (Lib.countB s ⟨#[10]⟩ + 1) m w (by omega) hm (by decide) (by decide) (by decide) (by decide) (by rw [if_pos (by decide)]; omega)
 rw [Nat.add_sub_cancel, hlen] at c
 have e2 : Lib.cellsOf (Lib.splitB ⟨#[10]⟩ 1 (Lib.countB s ⟨#[10]⟩) s) (Lib.countB s ⟨#[10]⟩ + 1) = ((Lib.splitB ⟨#[10]⟩ 1 (Lib.countB s ⟨#[10]⟩) s).map Value.string).toArray := by rw [← hlen]; exact Lib.cellsOf_full _
 rw [e2] at c
 have HD : Hid ((Lib.splitB ⟨#[10]⟩ 1 (Lib.countB s ⟨#[10]⟩) s).map (·.data.toList) = Lib.splitK [10] 1 (Lib.count s.data.toList [10]) s.data.toList) := hd
 have HL : Hid ((Lib.splitB ⟨#[10]⟩ 1 (Lib.countB s ⟨#[10]⟩) s).length = Lib.countB s ⟨#[10]⟩ + 1) := hlen
 clear hd e2 hm hlen
 generalize Lib.splitB ⟨#[10]⟩ 1 (Lib.countB s ⟨#[10]⟩) s = xs at *
 generalize hcnt : Lib.countB s ⟨#[10]⟩ = cnt at *
 clear hcnt
 go_enter Tryz.func49, Tryz.ntmps49
 go_wp2_with fail
 refine c.mono ?_
 rintro e w1 ⟨rfl, rfl⟩
 clear c
 go_wp2
 go_ret
 exact ⟨xs, HD.out, by rw [HL.out]; omega, by rw [HL.out]; rfl, rfl⟩
end Go.Proofs.YtlndhdimamnnlaaGreatDoor



namespace Go.Proofs.YtlndhdimamnnlaaGreatDoor
open Go.RowKit
set_option maxHeartbeats 2000000 in
set_option maxRecDepth 100000 in
theorem trimR_set (cs : ByteArray) (s : ByteArray) (w : World) (hs : s.size ≤ 1000000000) (hc2 : 2 ≤ cs.size) (hcm : cs.size ≤ 1000) (hasc : ∀ (j : Nat) (b : UInt8), cs.data.toList[j]? = some b → b.toNat < 128) :
  Calls Tryz.prog 50 #[.string s, .string cs] w fun e w' => e = .returned (.string ⟨(dropEnd cs.data.toList.contains s.data.toList).toArray⟩) ∧ Below w.heap.size w w' := by
 have hcne : cs.toList.isEmpty = false := by
  rw [ByteArray.toList_eq]
  cases h : cs.data.toList with
  | nil => have := congrArg List.length h; rw [← Lib.size_eq] at this; rw [List.length_nil] at this; omega
  | cons a b => rfl
 rcases Nat.eq_zero_or_pos s.size with h0 | h0
 ·have e : s.data.toList = [] := List.length_eq_zero_iff.1 (by rw [← Lib.size_eq]; exact h0)
  obtain rfl : s = ⟨#[]⟩ := ByteArray.ext (Array.toList_inj.1 e)
  clear e h0 hs
  go_enter Tryz.func50, Tryz.ntmps50
  go_wp2
  go_ret
  exact ⟨rfl, Below.refl _ _⟩
 ·have hne : s.toList.isEmpty = false := by
   rw [ByteArray.toList_eq]
   cases h : s.data.toList with
   | nil => have := congrArg List.length h; rw [← Lib.size_eq] at this; rw [List.length_nil] at this; omega
   | cons a b => rfl
  have hn1 : ((cs.size : Int) == 1) = false := by rw [beq_eq_false_iff_ne]; omega
  have HM := Tryz.strings_makeASCIISet zero256 cs w (by omega) hasc
  have HS1 : Hid ((Lib.setCells cs.data.toList).size = 256) := Lib.setCells_size _
  have HS2 : Hid (∀ c : UInt8, (Lib.setCells cs.data.toList)[c.toNat]? = some (.bool (cs.data.toList.contains c))) := fun c => Lib.setCells_at _ c
  have HS3 : Hid ((Lib.setCells cs.data.toList).all (·.oneCell') = true) := Lib.setCells_one _
  generalize Lib.setCells cs.data.toList = SA at *
  have HMM : Hid (Calls Tryz.prog 93 #[.string cs] w _) := HM
  clear HM hasc
  go_enter Tryz.func50, Tryz.ntmps50
  go_wp2_with fail
  refine HMM.out.mono ?_
  rintro e w1 ⟨rfl, rfl⟩
  clear HMM
  have hA1 := HS1.out
  have hsc : (storeCells ⟨w.heap.size + 1, 0, none⟩ SA.toList 0).run Tryz.prog ((w.alloc (.cells SA 121)).alloc (.cells Tryz.zeroCells121 121)) = .ok () ((w.alloc (.cells SA 121)).alloc (.cells SA 121)) := by
   have := run_storeCells_new (P := Tryz.prog) (w.alloc (.cells SA 121)) 121 Tryz.zeroCells121 SA (by rw [hA1]; kernel_rfl) (by rw [hA1]; kernel_rfl) HS3.out
   simpa using this
  have HC : Hid (∀ c : UInt8, ((w.alloc (.cells SA 121)).alloc (.cells SA 121)).cell? ⟨w.heap.size + 1, c.toNat, none⟩ = some (.bool (cs.data.toList.contains c))) := fun c => by
   rw [World.cell?_alloc_at _ _ _ _ (by simp)]; exact HS2.out c
  have hb2 : Below w.heap.size w ((w.alloc (.cells SA 121)).alloc (.cells SA 121)) := ((Below.refl _ _).alloc (Nat.le_refl _) _).alloc (by simp) _
  go_wp2_with fail
  clear hsc
  generalize ((w.alloc (.cells SA 121)).alloc (.cells SA 121)) = w2 at *
  refine (right_set cs.data.toList.contains (w.heap.size + 1) s w2 hs HC.out).mono ?_
  rintro e w3 ⟨rfl, hw3⟩
  have hw3' := hw3.symm
  subst hw3'
  clear HC
  go_wp2
  go_ret
  exact ⟨rfl, hb2⟩
end Go.Proofs.YtlndhdimamnnlaaGreatDoor


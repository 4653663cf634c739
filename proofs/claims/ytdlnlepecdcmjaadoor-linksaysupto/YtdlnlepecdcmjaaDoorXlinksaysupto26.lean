/- The reference's LinksOf: plain facts on a tag's attributes, and what its loop has come to. -/
import Derived.Test.YtdlnlepecdcmjaaDoorXlinksaysupto25
import Derived.Test.YtdlnlepecdcmjaaDoorXlinksaysupto15
import Derived.Lib.JoinFns
namespace Go.Proofs.YtdlnlepecdcmjaaDoor
open Go.RowKit

theorem dropGap (s : List UInt8) : (s.dropWhile inGap).dropWhile inGap = s.dropWhile inGap := by
  induction s with
  | nil => rfl
  | cons c t ih =>
    by_cases h : inGap c = true
    · rw [List.dropWhile_cons_of_pos h, ih]
    · rw [List.dropWhile_cons_of_neg h, List.dropWhile_cons_of_neg h]
theorem tagS_of (low : List UInt8 → List UInt8) (seen : List (List UInt8)) {s r : List UInt8} (h : s.dropWhile inGap = r.dropWhile inGap) : tagS low seen s = tagS low seen r := by
  cases hr : r.dropWhile inGap with
  | nil => rw [tagS_nil low seen s (h.trans hr), tagS_nil low seen r hr]
  | cons c t =>
    by_cases hc : c = 62
    · subst hc
      rw [tagS_end low seen s t (h.trans hr), tagS_end low seen r t hr]
    · rw [tagS_next low seen s c t (h.trans hr) hc, tagS_next low seen r c t hr hc]
theorem tagS_gap (low : List UInt8 → List UInt8) (seen : List (List UInt8)) {c : UInt8} (t : List UInt8) (h : inGap c = true) : tagS low seen (c :: t) = tagS low seen t := tagS_of low seen (List.dropWhile_cons_of_pos h)
theorem gap_sp (s : List UInt8) : (s.dropWhile spB).dropWhile inGap = s.dropWhile inGap := by
  induction s with
  | nil => rfl
  | cons c t ih =>
    by_cases h : spB c = true
    · rw [List.dropWhile_cons_of_pos h, ih, List.dropWhile_cons_of_pos (by unfold inGap; rw [h]; rfl)]
    · rw [List.dropWhile_cons_of_neg h]
theorem tagS_sp (low : List UInt8 → List UInt8) (seen : List (List UInt8)) (s : List UInt8) : tagS low seen (s.dropWhile spB) = tagS low seen s := tagS_of low seen (gap_sp s)
/-- What the loop over a tag's attributes has come to. -/
structure TgAt (w0 : World) (p : ByteArray) (s0 : List UInt8) (v11 v12 : Value) (wr : World) (sj : List UInt8) (names : List (List UInt8)) (acc : List LK) : Prop where
  la : acc.length + sj.length ≤ 4000
  ls : names.length + sj.length ≤ 4000
  suf : Suf p sj
  bel : Below w0.heap.size w0 wr
  om : wr.ownsRow w0.heap.size 33 3 v11 acc.length (lv p.size acc)
  on : wr.ownsRow w0.heap.size 9 1 v12 names.length (names.map fun x => Value.string (lba x))
  eq : tagS smallU [] s0 = ((tagS smallU names.reverse sj).1.map (acc ++ ·), (tagS smallU names.reverse sj).2)
theorem TgAt.gap {w0 : World} {p : ByteArray} {s0 : List UInt8} {v11 v12 : Value} {wr : World} {c : UInt8} {t : List UInt8} {names : List (List UInt8)} {acc : List LK} (h : TgAt w0 p s0 v11 v12 wr (c :: t) names acc) (hc : inGap c = true) : TgAt w0 p s0 v11 v12 wr t names acc :=
  ⟨by have := h.la; simp only [List.length_cons] at this; omega, by have := h.ls; simp only [List.length_cons] at this; omega, h.suf.tl, h.bel, h.om, h.on, by rw [h.eq, tagS_gap smallU _ t hc]⟩
/-- Its end. -/
def TgEnd (w0 : World) (p : ByteArray) (r : Option (List LK) × List UInt8) (v9 v11 : Value) (wr : World) : Prop :=
  ∃ (sj : List UInt8) (acc : List LK), v9 = .int .i64 ((pos p sj : Nat) : Int) ∧ Suf p sj ∧ Below w0.heap.size w0 wr ∧ acc.length ≤ 4000 ∧ wr.ownsRow w0.heap.size 33 3 v11 acc.length (lv p.size acc) ∧ ((sj = [] ∧ r = (none, [])) ∨ ∃ t, sj = 62 :: t ∧ r = (some acc, t))
theorem TgAt.nil {w0 : World} {p : ByteArray} {s0 : List UInt8} {v11 v12 : Value} {wr : World} {names : List (List UInt8)} {acc : List LK} (h : TgAt w0 p s0 v11 v12 wr [] names acc) : TgEnd w0 p (tagS smallU [] s0) (.int .i64 ((p.size : Nat) : Int)) v11 wr :=
  ⟨[], acc, rfl, h.suf, h.bel, by have := h.la; simp at this; omega, h.om, Or.inl ⟨rfl, by rw [h.eq, tagS_nil smallU _ [] rfl]; rfl⟩⟩
theorem TgAt.fin {w0 : World} {p : ByteArray} {s0 : List UInt8} {v11 v12 : Value} {wr : World} {t : List UInt8} {names : List (List UInt8)} {acc : List LK} (h : TgAt w0 p s0 v11 v12 wr (62 :: t) names acc) {k : Nat} (hk : pos p (62 :: t) = k) : TgEnd w0 p (tagS smallU [] s0) (.int .i64 (k : Int)) v11 wr :=
  ⟨62 :: t, acc, by rw [hk], h.suf, h.bel, by have := h.la; simp at this; omega, h.om, Or.inr ⟨t, rfl, by rw [h.eq, tagS_end smallU _ (62 :: t) t rfl]; simp⟩⟩
/-- Rows of two kinds are not one. -/
theorem rows_apart {w : World} {b1 e1 s1 n1 b2 e2 s2 n2 : Nat} {v1 v2 : Value} {x1 x2 : List Value} (h1 : w.ownsRow b1 e1 s1 v1 n1 x1) (h2 : w.ownsRow b2 e2 s2 v2 n2 x2) (hne : e1 ≠ e2) : v1.ownBlock = none ∨ v1.ownBlock ≠ v2.ownBlock := by
  rcases h1.2 with ⟨rfl, _⟩ | ⟨g, cap, cur, rfl, k1⟩
  · exact Or.inl rfl
  · rcases h2.2 with ⟨rfl, _⟩ | ⟨g', cap', cur', rfl, k2⟩
    · exact Or.inr (by intro h; cases h)
    · refine Or.inr fun h => hne ?_
      have hg : g = g' := by
        have : (Value.slice (some ⟨g, 0, none⟩) n1 cap).ownBlock = some g := rfl
        have : (Value.slice (some ⟨g', 0, none⟩) n2 cap').ownBlock = some g' := rfl
        simp_all
      subst hg
      obtain ⟨_, a1, _⟩ := k1
      obtain ⟨_, a2, _⟩ := k2
      simp_all
def eqB (s : List UInt8) : Bool := match s with
  | 61 :: _ => true
  | _ => false
theorem eqB_ne {d : UInt8} (y : List UInt8) (h : ¬ d = 61) : eqB (d :: y) = false := by
  unfold eqB
  split
  · rename_i e
    exact absurd (List.cons.inj e).1 h
  · rfl
theorem eqB_true {y : List UInt8} (h : eqB y = true) : ∃ t, y = 61 :: t := by
  unfold eqB at h
  split at h
  · exact ⟨_, rfl⟩
  · cases h
/-- Behind an attribute's name: what is left, and the block of its link. -/
def LkA (w1 : World) (p : ByteArray) (ya yb : List UInt8) (L : Nat) (yd : List UInt8) (wx : World) : Prop :=
  Below L w1 wx ∧ Suf p yd ∧
  ((eqB yb = false ∧ yd = ya ∧ wx.heap[L]? = some (.cells #[.int .i64 (-1), .int .i64 0, .string ⟨#[]⟩] 33)) ∨
   ∃ y2, yb = 61 :: y2 ∧ yd = (valP (y2.dropWhile spB)).2.2 ∧ wx.heap[L]? = some (.cells #[.int .i64 ((pos p (valP (y2.dropWhile spB)).1 : Nat) : Int), .int .i64 ((pos p (valP (y2.dropWhile spB)).1 + (valP (y2.dropWhile spB)).2.1.length : Nat) : Int), .string ⟨#[]⟩] 33))
/-- Two stores into the block of a link. -/
theorem link_set {W : World} {L t : Nat} {a b c : Value} (h : W.heap[L]? = some (.cells #[a, b, c] t)) (x y : Value) : ((W.setCell ⟨L, 0, none⟩ x).setCell ⟨L, 1, none⟩ y).heap[L]? = some (.cells #[x, y, c] t) := by
  have h1 : (W.setCell ⟨L, 0, none⟩ x).heap[L]? = some (.cells #[x, b, c] t) := by
    show (W.heap.modify L _)[L]? = _
    rw [Array.getElem?_modify, if_pos rfl, h]
    rfl
  show ((W.setCell ⟨L, 0, none⟩ x).heap.modify L _)[L]? = _
  rw [Array.getElem?_modify, if_pos rfl, h1]
  rfl
end Go.Proofs.YtdlnlepecdcmjaaDoor

/- The reference's LinksOf: a value between quotes: plain facts. No program. -/
namespace Go.Proofs.YtdlnlepecdcmjaaDoor

theorem indexQ (q : UInt8) : ∀ y : List UInt8, Lib.indexByte (y ++ [q]) q = ((y.takeWhile (notQ q)).length : Int)
  | [] => by simp [Lib.indexByte]
  | c :: y => by
    have ih := indexQ q y
    rw [List.cons_append, Lib.indexByte]
    by_cases h : c = q
    · subst h
      rw [if_pos (by simp), List.takeWhile_cons_of_neg (by simp [notQ])]
      rfl
    · rw [if_neg (by simpa using h), ih, List.takeWhile_cons_of_pos (by simp [notQ, h]), if_neg (by simp)]
      rfl
theorem quote_len (q : UInt8) (y : List UInt8) : (y.takeWhile (notQ q)).length + (y.dropWhile (notQ q)).length = y.length := by
  have := congrArg List.length (List.takeWhile_append_dropWhile (p := notQ q) (l := y))
  rw [List.length_append] at this
  exact this
/-- Behind the second quote, or the end. -/
theorem quote_pos {p : ByteArray} {q : UInt8} {y : List UInt8} (h : Suf p (q :: y)) : min (pos p (q :: y) + 1 + (y.takeWhile (notQ q)).length + 1) p.size = pos p ((y.dropWhile (notQ q)).drop 1) := by
  have h1 := h.len
  have h2 := quote_len q y
  unfold pos
  rw [List.length_drop]
  simp only [List.length_cons] at *
  omega
theorem valP_q {q : UInt8} (y : List UInt8) (h : qB q = true) : valP (q :: y) = (y, y.takeWhile (notQ q), (y.dropWhile (notQ q)).drop 1) := by
  show (if qB q = true then _ else _) = _
  rw [if_pos h]
/-- The text that is looked through, and the quote. -/
theorem quote_texts {p : ByteArray} {q : UInt8} {y : List UInt8} (h : Suf p (q :: y)) : p.extract (pos p (q :: y) + 1) p.size = lba y ∧ p.extract (pos p (q :: y)) (pos p (q :: y) + 1) = ⟨#[q]⟩ ∧ pos p y = pos p (q :: y) + 1 := by
  obtain ⟨k, ek, hk, hpc, hn⟩ := at_byte h
  refine ⟨?_, ?_, by rw [hn, ek]⟩
  · rw [ek, ← hn]
    exact ext_end h.tl
  · have e : pos p (q :: y) + 1 = pos p y := by rw [ek, hn]
    rw [e]
    exact ext_of h (a := [q]) (r := y) rfl
end Go.Proofs.YtdlnlepecdcmjaaDoor

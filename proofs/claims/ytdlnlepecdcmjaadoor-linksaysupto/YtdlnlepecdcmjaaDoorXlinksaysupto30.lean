/- The reference's LinksOf: a round of the loop over attributes: plain facts. -/
import Derived.Test.YtdlnlepecdcmjaaDoorXlinksaysupto29
namespace Go.Proofs.YtdlnlepecdcmjaaDoor
open Go.RowKit

theorem info_strK : (Tryd.prog.info? 9).map (fun i => (i.zero, i.size, i.bytes)) = some (some (.string ⟨#[]⟩), 1, 16) := by kernel_rfl
theorem cell_loneK (w : World) (v : Value) (t : TypeId) : ∀ j x, [v][j]? = some x → (w.alloc (.cells #[v] t)).cell? ((⟨w.heap.size, 0, none⟩ : Addr).add j) = some x := by
  intro j x hj
  match j, hj with
  | 0, hj => simp at hj; subst hj; simp [Addr.add]
theorem one_strK (T : ByteArray) : ∀ u ∈ [Value.string T], u.oneCell' = true := by
  intro u hu
  simp at hu
  subst hu
  rfl
/-- The value that stands behind the mark. -/
def valK (y2 : List UInt8) : LK := ((valP (y2.dropWhile spB)).1.length, (valP (y2.dropWhile spB)).2.1)
theorem attr_is {c : UInt8} {t ya yb : List UInt8} (h1 : t.dropWhile inAttr = ya) (h2 : ya.dropWhile spB = yb) : attrP (c :: t) = behP yb := by
  unfold attrP
  show behP ((t.dropWhile inAttr).dropWhile spB) = _
  rw [h1, h2]
theorem beh_no {yb : List UInt8} (h : eqB yb = false) : behP yb = (none, yb) := by
  unfold behP
  cases yb with
  | nil => rfl
  | cons d y =>
    simp only
    rw [if_neg]
    rintro rfl
    cases h
theorem beh_eq (y2 : List UInt8) : behP (61 :: y2) = (some (valK y2), (valP (y2.dropWhile spB)).2.2) := by
  unfold behP
  simp only [if_pos]
  rfl
theorem mine_no (seen : List (List UInt8)) (nm : List UInt8) (x : LK) : mineP seen nm none = addK false x := rfl
theorem mine_eq (names : List (List UInt8)) (nm : List UInt8) (x : LK) (b : Bool) (hb : b = ((decide (nm = hrefL) || decide (nm = srcL)) && !names.contains nm)) : mineP names.reverse nm (some x) = addK b x := by
  have hc : names.reverse.contains nm = names.contains nm := by rw [Bool.eq_iff_iff]; simp
  unfold mineP addK
  simp only
  rw [hc, hb]
  by_cases h1 : names.contains nm = false
  · by_cases h2 : nm = hrefL ∨ nm = srcL
    · rw [if_pos ⟨h1, h2⟩, if_pos]
      rw [h1]
      simpa using h2
    · rw [if_neg (fun h => h2 h.2), if_neg]
      rw [h1]
      simpa using h2
  · rw [if_neg (fun h => h1 h.1), if_neg]
    simp only [Bool.not_eq_false] at h1
    rw [h1]
    simp
theorem LkA.len {w1 : World} {p : ByteArray} {c : UInt8} {t ya yb yd : List UInt8} {L : Nat} {wx : World} (h : LkA w1 p ya yb L yd wx) (h1 : t.dropWhile inAttr = ya) (h2 : ya.dropWhile spB = yb) : yd.length ≤ t.length := by
  rcases h.2.2 with ⟨_, h3, _⟩ | ⟨y2, h3, h4, _⟩
  · rw [h3, ← h1]
    exact drop_dropWhile inAttr t
  · have := attr_len c t
    rw [attr_is h1 h2, h3, beh_eq] at this
    rw [h4]
    exact this
theorem LkA.left {w1 : World} {p : ByteArray} {c : UInt8} {t ya yb yd : List UInt8} {L : Nat} {wx : World} (h : LkA w1 p ya yb L yd wx) (h1 : t.dropWhile inAttr = ya) (h2 : ya.dropWhile spB = yb) (low : List UInt8 → List UInt8) (seen : List (List UInt8)) : tagS low seen (attrP (c :: t)).2 = tagS low seen yd := by
  rcases h.2.2 with ⟨h3, h4, _⟩ | ⟨y2, h3, h4, _⟩
  · rw [attr_is h1 h2, beh_no h3, h4, ← h2, tagS_sp]
  · rw [attr_is h1 h2, h3, beh_eq, h4]
theorem TgAt.next {w0 : World} {p : ByteArray} {s0 : List UInt8} {v11 v12 u11 u12 : Value} {wr w1 wx wz : World} {c : UInt8} {t ya yb yd : List UInt8} {L : Nat} {names : List (List UInt8)} {acc : List LK} (h : TgAt w0 p s0 v11 v12 wr (c :: t) names acc) (hc : c ≠ 62) (hgp : inGap c = false)
    (hA : LkA w1 p ya yb L yd wx) (h1 : t.dropWhile inAttr = ya) (h2 : ya.dropWhile spB = yb) {b : Bool} {x : LK} (hm : mineP names.reverse (smallU (nameP (c :: t))) (attrP (c :: t)).1 = addK b x)
    (hb : Below w0.heap.size w0 wz) (om : wz.ownsRow w0.heap.size 33 3 u11 (acc ++ addK b x).length (lv p.size (acc ++ addK b x)))
    (on : wz.ownsRow w0.heap.size 9 1 u12 (names.length + 1) ((names.map fun x => Value.string (lba x)) ++ [.string (lba (smallU (nameP (c :: t))))])) :
    TgAt w0 p s0 u11 u12 wz yd (names ++ [smallU (nameP (c :: t))]) (acc ++ addK b x) := by
  have hl := hA.len (c := c) h1 h2
  have ha : (addK b x).length ≤ 1 := by unfold addK; split <;> simp
  have h3 := h.la
  have h4 := h.ls
  simp only [List.length_cons] at h3 h4
  refine ⟨by rw [List.length_append]; omega, by rw [List.length_append]; show names.length + 1 + _ ≤ _; omega, hA.2.1, hb, om, by simpa using on, ?_⟩
  rw [h.eq, tagS_next smallU names.reverse (c :: t) c t (List.dropWhile_cons_of_neg (by rw [hgp]; simp)) hc, hm, hA.left (c := c) h1 h2, List.reverse_append]
  simp only [Option.map_map]
  refine Prod.ext ?_ rfl
  show Option.map _ _ = Option.map _ _
  refine congrArg (fun f => Option.map f _) ?_
  funext y
  simp
/-- What the test says: a link, or none. -/
def LkX (p : ByteArray) (yb : List UInt8) (L : Nat) (wx : World) (nm : List UInt8) (names : List (List UInt8)) (b : Bool) (x : LK) : Prop :=
  (eqB yb = false ∧ b = false) ∨ ∃ y2, yb = 61 :: y2 ∧ x = valK y2 ∧ b = ((decide (nm = hrefL) || decide (nm = srcL)) && !names.contains nm) ∧ wx.heap[L]? = some (.cells #[.int .i64 ((pos p (valP (y2.dropWhile spB)).1 : Nat) : Int), .int .i64 ((pos p (valP (y2.dropWhile spB)).1 + (valP (y2.dropWhile spB)).2.1.length : Nat) : Int), .string ⟨#[]⟩] 33)
theorem LkX.mine {p : ByteArray} {c : UInt8} {t ya yb : List UInt8} {L : Nat} {wx : World} {nm : List UInt8} {names : List (List UInt8)} {b : Bool} {x : LK} (h : LkX p yb L wx nm names b x) (h1 : t.dropWhile inAttr = ya) (h2 : ya.dropWhile spB = yb) : mineP names.reverse nm (attrP (c :: t)).1 = addK b x := by
  rw [attr_is h1 h2]
  rcases h with ⟨h3, rfl⟩ | ⟨y2, rfl, rfl, h3, _⟩
  · rw [beh_no h3]
    rfl
  · rw [beh_eq]
    exact mine_eq names nm (valK y2) b h3
theorem val_sufK {p : ByteArray} {z : List UInt8} (h : Suf p z) : Suf p (valP z).1 ∧ ∃ r, (valP z).2.1 ++ r = (valP z).1 := by
  cases z with
  | nil => exact ⟨h, [], rfl⟩
  | cons c t =>
    by_cases hq : qB c = true
    · rw [valP_q t hq]
      exact ⟨h.tl, _, List.takeWhile_append_dropWhile⟩
    · have hv : valP (c :: t) = (c :: t, (c :: t).takeWhile inBare, (c :: t).dropWhile inBare) := by
        show (if qB c = true then _ else _) = _
        rw [if_neg hq]
      rw [hv]
      exact ⟨h, _, List.takeWhile_append_dropWhile⟩
theorem LkX.cells {p : ByteArray} {yb : List UInt8} {L : Nat} {wx : World} {nm : List UInt8} {names : List (List UInt8)} {b : Bool} {x : LK} (h : LkX p yb L wx nm names b x) (hS : Suf p yb) (hb : b = true) :
    wx.heap[L]? = some (.cells #[.int .i64 ((p.size - x.1 : Nat) : Int), .int .i64 ((p.size - x.1 + x.2.length : Nat) : Int), .string ⟨#[]⟩] 33) ∧ p.extract (p.size - x.1) (p.size - x.1 + x.2.length) = lba x.2 ∧ p.size - x.1 + x.2.length ≤ p.size := by
  rcases h with ⟨_, rfl⟩ | ⟨y2, rfl, rfl, _, h4⟩
  · cases hb
  · obtain ⟨h5, r, h6⟩ := val_sufK ((hS.tl).dw spB)
    have h7 := pos_plus h5 h6
    have h8 := ext_of h5 h6
    refine ⟨h4, ?_, ?_⟩
    · rw [h7] at h8
      exact h8
    · have := pos_le p r
      rw [h7] at this
      exact this
end Go.Proofs.YtdlnlepecdcmjaaDoor

/- Plain facts: behind each link of a page something is left. No program. -/
import Derived.Test.YtdlnlepecdcmjaaDoorXlinksaysupto8
import Derived.Test.YtdlnlepecdcmjaaDoorXlinksaysupto16
namespace Go.Proofs.YtdlnlepecdcmjaaDoor

theorem val_pos (s : List UInt8) (h : (valP s).2.2 ≠ []) : 1 ≤ (valP s).1.length := by
  have h0 : 0 < (valP s).2.2.length := List.length_pos_iff.2 h
  have h1 : (valP s).2.2.length ≤ (valP s).1.length := by
    cases s with
    | nil => exact Nat.le_refl _
    | cons c t =>
      simp only [valP]
      split
      · have := drop_dropWhile (notQ c) t; simp only [List.length_drop]; omega
      · exact drop_dropWhile inBare (c :: t)
  omega
theorem attr_pos (s : List UInt8) (x : LK) (h : (attrP s).1 = some x) (hr : (attrP s).2 ≠ []) : 1 ≤ x.1 := by
  unfold attrP at h hr
  cases hd : (((s.drop 1).dropWhile inAttr).dropWhile spB) with
  | nil => rw [hd] at h; cases h
  | cons c t =>
    rw [hd] at h hr
    simp only [behP] at h hr
    split at h
    · rename_i h61
      rw [if_pos h61] at hr
      cases h
      exact val_pos _ hr
    · cases h
theorem tag_left (low : List UInt8 → List UInt8) : ∀ (n : Nat) (seen : List (List UInt8)) (s : List UInt8) (l : List LK), (tagF low n seen s).1 = some l → ∀ x ∈ l, 1 ≤ x.1
  | 0, _, _, _, h => by cases h
  | n + 1, seen, s, l, h => by
    unfold tagF at h
    cases hd : s.dropWhile inGap with
    | nil => rw [hd] at h; cases h
    | cons c t =>
      rw [hd] at h
      simp only at h
      split at h
      · cases h; intro x hx; cases hx
      · simp only [Option.map_eq_some_iff] at h
        obtain ⟨l1, h1, rfl⟩ := h
        have hr : (attrP (c :: t)).2 ≠ [] := fun e => by rw [e, tagF_nil] at h1; cases h1
        intro x hx
        rcases List.mem_append.1 hx with hx | hx
        · unfold mineP at hx
          split at hx
          · cases hx
          · rename_i y hy
            split at hx
            · simp at hx
              subst hx
              exact attr_pos _ _ hy hr
            · cases hx
        · exact tag_left low n _ _ l1 h1 x hx
theorem piece_left (low : List UInt8 → List UInt8) (s : List UInt8) : ∀ x ∈ (pieceP low s).1, 1 ≤ x.1 := by
  unfold pieceP
  split
  · intro x hx; cases hx
  · split
    · intro x hx; cases hx
    · split
      · simp only [tagP]
        cases h : (tagF low ((List.dropWhile inName (List.drop 1 s)).length + 1) [] (List.dropWhile inName (List.drop 1 s))).1 with
        | none => intro x hx; cases hx
        | some l => exact tag_left low _ _ _ l h
      · split <;> (intro x hx; cases hx)
theorem find_left (low : List UInt8 → List UInt8) : ∀ (n : Nat) (acc : List LK) (s : List UInt8) (L : List LK), findF low n acc s = some L → (∀ x ∈ acc, 1 ≤ x.1) → ∀ x ∈ L, 1 ≤ x.1
  | 0, acc, s, L, h, ha => by simp only [findF, Option.some.injEq] at h; rw [← h]; exact ha
  | n + 1, acc, s, L, h, ha => by
    rw [findF] at h
    split at h
    · simp only [Option.some.injEq] at h; rw [← h]; exact ha
    · split at h
      · cases h
      · refine find_left low n _ _ L h (fun x hx => ?_)
        rcases List.mem_append.1 hx with hx | hx
        · exact ha x hx
        · exact piece_left low s x hx
theorem findP_left (low : List UInt8 → List UInt8) (b : List UInt8) (l : List LK) (h : findP low b = some l) : ∀ x ∈ l, 1 ≤ x.1 := by
  unfold findP at h
  split at h
  · cases h
  · exact find_left low _ _ _ l h (fun x hx => by cases hx)
end Go.Proofs.YtdlnlepecdcmjaaDoor

/- link's filled: texts in the places of the links, in new memory; nothing that was there is changed. -/
namespace Go.Proofs.YtdlnlepecdcmjaaDoor
open Go.RowKit

/-- Bytes that lie there are put behind bytes that the call owns. -/
theorem append_bytes {w : World} {ops : Array Oper} {rest : List Oper} {o : Oper} {a : Act} {Q : Exit → Act → World → Prop} (hgd : o.guard = none) (s x : Operand)
    (ho : o.op = .call { callee := .builtin .append, args := #[s, x], argTypes := #[22, 22] })
    (base : Nat) (v : Value) (O : List UInt8) (hs : a.eval s = v) (hown : w.ownsRow base 5 1 v O.length (bv O))
    (q : Option Addr) (m c : Nat) (l : List UInt8) (em : m = l.length) (hx : a.eval x = .slice q m c) (hr : BRow w q l) (hq : q = none → m = 0 ∧ c = 0)
    (h63 : O.length + m ≤ 100000000) (hbase : base ≤ w.heap.size)
    (h : ∀ v' w' OP, Hid (OP = O ++ l) → w'.ownsRow base 5 1 v' OP.length (bv OP) → w.grownBy w' v.ownBlock → wpList Tryd.prog ops Q rest (a.put o.dst v') w') : wpList Tryd.prog ops Q (o :: rest) a w := by
  obtain ⟨i0, hi, hz0, hz1, hz2⟩ := info_parts info_u8
  subst em
  cases q with
  | none =>
    obtain ⟨h0, rfl⟩ := hq rfl
    have hl : l = [] := List.length_eq_zero_iff.1 h0
    subst hl
    refine wpList_append_own_none hgd s x 22 ho base 5 i0 1 Tryd.underlying22 hi v O.length (bv O) hs hown hx ?_
    refine h v w O (by unfold Hid; simp) hown (World.grownBy.refl _ _)
  | some ad =>
    refine wpList_append_own _ hgd s x 22 ho base 5 i0 (.int .u8 0) 1 1 Tryd.underlying22 hi hz0 hz1 hz2 rfl (by decide) v O.length (bv O) hs hown ad l.length c (bv l) hx (by rw [bv_length]; omega) ?_ ?_ (by unfold maxLen; omega) (by omega) hbase (fun v' w' h1 h2 _ => h v' w' (O ++ l) rfl (by rw [bv_append, List.length_append]; exact h1) h2)
    · intro j u hj
      have hjl : j < l.length := by
        have := (List.getElem?_eq_some_iff.1 hj).1
        rwa [bv_length] at this
      obtain ⟨b, o', e, hc⟩ := hr (fun e => by rw [e] at hjl; simp at hjl)
      obtain rfl := Option.some.inj e
      rw [Addr.add_lit, hc j hjl]
      simp only [bv, List.getElem?_map, List.getElem?_eq_getElem hjl, Option.map_some, Option.some.injEq] at hj
      rw [← hj]
      simp [List.getD_eq_getElem?_getD, List.getElem?_eq_getElem hjl]
    · intro u hu
      simp only [bv, List.mem_map] at hu
      obtain ⟨c, _, rfl⟩ := hu
      rfl
theorem BRow.part {w : World} {q : Option Addr} {l : List UInt8} (h : BRow w q l) (bq oq : Nat) (hq : q = some ⟨bq, oq, none⟩) (d m : Nat) : BRow w (some ⟨bq, oq + d, none⟩) ((l.drop d).take m) := by
  intro hne
  refine ⟨bq, oq + d, rfl, fun i hi => ?_⟩
  have hlen : i < m ∧ d + i < l.length := by
    rw [List.length_take, List.length_drop] at hi
    omega
  obtain ⟨b, o, e, hc⟩ := h (fun e => by rw [e] at hlen; simp at hlen)
  rw [hq] at e
  obtain ⟨rfl, rfl⟩ : bq = b ∧ oq = o := by injection e with e; injection e with h1 h2; exact ⟨h1, h2⟩
  have := hc (d + i) hlen.2
  rw [Nat.add_assoc, this]
  congr 3
  rw [List.getD_eq_getElem?_getD, List.getD_eq_getElem?_getD, List.getElem?_take_of_lt hlen.1, List.getElem?_drop]
theorem lstrCells (s : ByteArray) : Lib.strCells s = bv s.data.toList := by simp [bv, Lib.strCells]
/-- What filled answers. -/
def FillPost (w : World) (out : List UInt8) (e : Ending) (w' : World) : Prop := Below w.heap.size w w' ∧
  ((4000 < out.length ∧ e = .returned (.tuple #[.slice none 0 0, .int .i64 2])) ∨ (out.length ≤ 4000 ∧ ∃ v, e = .returned (.tuple #[v, .int .i64 0]) ∧ w'.ownsRow w.heap.size 5 1 v out.length (bv out)))
structure FillSt (w : World) (N : Nat) (b : List UInt8) (l : List LK) (ts : List (List UInt8)) (gk : Nat) (wr : World) (v : Value) (i d : Nat) (O : List UInt8) : Prop where
  few : l.length < i + gk
  il : i ≤ l.length
  dn : d ≤ N
  dc : i < l.length → d < N
  ol : O.length ≤ 4000
  ord : Ord N d (l.drop i)
  bel : Below w.heap.size w wr
  own : wr.ownsRow w.heap.size 5 1 v O.length (bv O)
  eq : fillP l ts b = O ++ fillP (l.drop i) (ts.drop i) (b.drop d)
theorem drop_at {α : Type} (l : List α) (i : Nat) (d : α) (h : i < l.length) : l.drop i = l.getD i d :: l.drop (i + 1) := by
  rw [List.drop_eq_getElem_cons h]
  simp [List.getD_eq_getElem?_getD, List.getElem?_eq_getElem h]
end Go.Proofs.YtdlnlepecdcmjaaDoor

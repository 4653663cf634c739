/- link's filled: texts in the places of the links, in new memory; nothing that was there is changed. -/
import Derived.Test.YtnfidloiediflacDoorLPutA
import Derived.Test.YtnfidloiediflacDoorLLeft
namespace Go.Proofs.YtnfidloiediflacDoor
open Go.RowKit

/-- Bytes that lie there are put behind bytes that the call owns. -/
theorem append_bytes {w : World} {ops : Array Oper} {rest : List Oper} {o : Oper} {a : Act} {Q : Exit → Act → World → Prop} (hgd : o.guard = none) (s x : Operand)
    (ho : o.op = .call { callee := .builtin .append, args := #[s, x], argTypes := #[22, 22] })
    (base : Nat) (v : Value) (O : List UInt8) (hs : a.eval s = v) (hown : w.ownsRow base 5 1 v O.length (bv O))
    (q : Option Addr) (m c : Nat) (l : List UInt8) (em : m = l.length) (hx : a.eval x = .slice q m c) (hr : BRow w q l) (hq : q = none → m = 0 ∧ c = 0)
    (h63 : O.length + m ≤ 100000000) (hbase : base ≤ w.heap.size)
    (h : ∀ v' w' OP, Hid (OP = O ++ l) → w'.ownsRow base 5 1 v' OP.length (bv OP) → w.grownBy w' v.ownBlock → wpList Tryd.prog ops Q rest (a.put o.dst v') w') : wpList Tryd.prog ops Q (o :: rest) a w := by
  obtain ⟨i0, hi, hz0, hz1, hz2⟩ := info_parts info_u8
  subst em
  cases q with
  | none =>
    obtain ⟨h0, rfl⟩ := hq rfl
    have hl : l = [] := List.length_eq_zero_iff.1 h0
    subst hl
    refine wpList_append_own_none hgd s x 22 ho base 5 i0 1 Tryd.underlying22 hi v O.length (bv O) hs hown hx ?_
    refine h v w O (by unfold Hid; simp) hown (World.grownBy.refl _ _)
  | some ad =>
    refine wpList_append_own _ hgd s x 22 ho base 5 i0 (.int .u8 0) 1 1 Tryd.underlying22 hi hz0 hz1 hz2 rfl (by decide) v O.length (bv O) hs hown ad l.length c (bv l) hx (by rw [bv_length]; omega) ?_ ?_ (by unfold maxLen; omega) (by omega) hbase (fun v' w' h1 h2 _ => h v' w' (O ++ l) rfl (by rw [bv_append, List.length_append]; exact h1) h2)
    · intro j u hj
      have hjl : j < l.length := by
        have := (List.getElem?_eq_some_iff.1 hj).1
        rwa [bv_length] at this
      obtain ⟨b, o', e, hc⟩ := hr (fun e => by rw [e] at hjl; simp at hjl)
      obtain rfl := Option.some.inj e
      rw [Addr.add_lit, hc j hjl]
      simp only [bv, List.getElem?_map, List.getElem?_eq_getElem hjl, Option.map_some, Option.some.injEq] at hj
      rw [← hj]
      simp [List.getD_eq_getElem?_getD, List.getElem?_eq_getElem hjl]
    · intro u hu
      simp only [bv, List.mem_map] at hu
      obtain ⟨c, _, rfl⟩ := hu
      rfl
theorem BRow.part {w : World} {q : Option Addr} {l : List UInt8} (h : BRow w q l) (bq oq : Nat) (hq : q = some ⟨bq, oq, none⟩) (d m : Nat) : BRow w (some ⟨bq, oq + d, none⟩) ((l.drop d).take m) := by
  intro hne
  refine ⟨bq, oq + d, rfl, fun i hi => ?_⟩
  have hlen : i < m ∧ d + i < l.length := by
    rw [List.length_take, List.length_drop] at hi
    omega
  obtain ⟨b, o, e, hc⟩ := h (fun e => by rw [e] at hlen; simp at hlen)
  rw [hq] at e
  obtain ⟨rfl, rfl⟩ : bq = b ∧ oq = o := by injection e with e; injection e with h1 h2; exact ⟨h1, h2⟩
  have := hc (d + i) hlen.2
  rw [Nat.add_assoc, this]
  congr 3
  rw [List.getD_eq_getElem?_getD, List.getD_eq_getElem?_getD, List.getElem?_take_of_lt hlen.1, List.getElem?_drop]
theorem lstrCells (s : ByteArray) : Lib.strCells s = bv s.data.toList := by simp [bv, Lib.strCells]
/-- What filled answers. -/
def FillPost (w : World) (out : List UInt8) (e : Ending) (w' : World) : Prop := Below w.heap.size w w' ∧
  ((4000 < out.length ∧ e = .returned (.tuple #[.slice none 0 0, .int .i64 2])) ∨ (out.length ≤ 4000 ∧ ∃ v, e = .returned (.tuple #[v, .int .i64 0]) ∧ w'.ownsRow w.heap.size 5 1 v out.length (bv out)))
structure FillSt (w : World) (N : Nat) (b : List UInt8) (l : List LK) (ts : List (List UInt8)) (gk : Nat) (wr : World) (v : Value) (i d : Nat) (O : List UInt8) : Prop where
  few : l.length < i + gk
  il : i ≤ l.length
  dn : d ≤ N
  dc : i < l.length → d < N
  ol : O.length ≤ 4000
  ord : Ord N d (l.drop i)
  bel : Below w.heap.size w wr
  own : wr.ownsRow w.heap.size 5 1 v O.length (bv O)
  eq : fillP l ts b = O ++ fillP (l.drop i) (ts.drop i) (b.drop d)
theorem drop_at {α : Type} (l : List α) (i : Nat) (d : α) (h : i < l.length) : l.drop i = l.getD i d :: l.drop (i + 1) := by
  rw [List.drop_eq_getElem_cons h]
  simp [List.getD_eq_getElem?_getD, List.getElem?_eq_getElem h]
end Go.Proofs.YtnfidloiediflacDoor

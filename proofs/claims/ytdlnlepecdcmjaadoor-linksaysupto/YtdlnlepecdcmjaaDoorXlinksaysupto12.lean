/- link's tag: what is asked of its map, its links in memory, the plain steps. -/
import Derived.Test.YtdlnlepecdcmjaaDoorXlinksaysupto11
import Derived.Maps.Own
import Derived.Maps.Views
import Derived.Maps.OwnOps
namespace Go.Proofs.YtdlnlepecdcmjaaDoor
open Go.RowKit Go.WideMaps Go.Maps

/-- Links as they lie in a row. -/
def lv (n : Nat) (l : List LK) : List Value := l.flatMap fun x => (lkv n x).toList
theorem lv_snoc (n : Nat) (l : List LK) (x : LK) : lv n (l ++ [x]) = lv n l ++ (lkv n x).toList := by simp [lv]
theorem lv_app (n : Nat) (l m : List LK) : lv n (l ++ m) = lv n l ++ lv n m := by simp [lv]
theorem lv_length (n : Nat) (l : List LK) : (lv n l).length = l.length * 3 := by
  induction l with
  | nil => rfl
  | cons x l ih => rw [show lv n (x :: l) = (lkv n x).toList ++ lv n l from by simp [lv], List.length_append, ih]; simp [lkv]; omega
theorem info_link : (Tryd.prog.info? 33).map (fun i => (i.zero, i.size, i.bytes)) = some (some (.agg #[.int .i64 0, .int .i64 0, .string ⟨#[]⟩]), 3, 32) := by kernel_rfl
theorem ownsRow_base {w : World} {B B' e s n : Nat} {v : Value} {xs : List Value} (h : w.ownsRow B e s v n xs) (hB : B' ≤ B) : w.ownsRow B' e s v n xs := by
  refine ⟨h.1, ?_⟩
  rcases h.2 with h1 | ⟨g, cap, cur, h1, h2, h3⟩
  · exact .inl h1
  · exact .inr ⟨g, cap, cur, h1, Nat.le_trans hB h2, h3⟩

theorem klaw : Keyed Tryd.prog 9 := string_keyed Tryd.underlying9
theorem zero_int (w : World) : (zeroValue 3).run Tryd.prog w = .ok (.int .i64 0) w := by kernel_rfl
/-- The map tells how often a name was met. -/
def Seen (w : World) (b n : Nat) (seen : List (List UInt8)) : Prop := ∃ D : DataW Unit, w.ownsMap Tryd.prog 9 (plainElem Tryd.prog 3) b n D ∧ IsMap D ∧ ∀ nm : List UInt8, D.atKey (.string nm) (.lit (.int .i64 0)) = .lit (.int .i64 ((seen.count nm : Nat) : Int))
theorem seen_made (w : World) : Seen (w.alloc (.map #[] 0)) w.heap.size 0 [] := ⟨.map [], World.ownsMap_made _ _ _ _, isMap_empty, fun nm => by simp [DataW.atKey]⟩
theorem Seen.move {w w' : World} {b n : Nat} {seen : List (List UInt8)} (h : Seen w b n seen) (e : w'.heap[b]? = w.heap[b]?) : Seen w' b n seen := by
  obtain ⟨D, ⟨es, clock, hb, F, hs, hD⟩, h2, h3⟩ := h
  exact ⟨D, ⟨es, clock, e.trans hb, F, hs, hD⟩, h2, h3⟩
theorem Seen.lt {w : World} {b n : Nat} {seen : List (List UInt8)} (h : Seen w b n seen) : b < w.heap.size := by
  obtain ⟨D, h1, _, _⟩ := h
  exact h1.lt
theorem Seen.look {w : World} {b n : Nat} {seen : List (List UInt8)} (h : Seen w b n seen) (s : ByteArray) (hs : s.size ≤ maxLen) :
    (Instr.lookup 71 (.map (some b)) (.string s) false).run Tryd.prog w = .ok (.int .i64 ((seen.count s.data.toList : Nat) : Int)) w := by
  obtain ⟨D, h1, _, h3⟩ := h
  obtain ⟨c, hrun, hat, _⟩ := h1.lookup_int klaw Tryd.underlying71 Tryd.underlying3 (zero_int _) (keyOf_string_mk Tryd.underlying9 hs)
  have e : c = ((seen.count s.data.toList : Nat) : Int) := by
    have h4 := (h3 s.data.toList).symm.trans hat
    exact (Lit.int.inj (DataW.lit.inj h4)).2.symm
  rw [e] at hrun
  exact hrun
theorem Seen.put {w : World} {b n : Nat} {seen : List (List UInt8)} (h : Seen w b n seen) (s : ByteArray) (hs : s.size ≤ maxLen) (hn : n < maxLen) (c : Int) (hc : c = ((seen.count s.data.toList + 1 : Nat) : Int)) (hcm : seen.count s.data.toList < 1000000) :
    ∃ w', (Instr.mapUpdate 71 (.map (some b)) (.string s) (.int .i64 c)).run Tryd.prog w = .ok () w' ∧ Seen w' b (n + 1) (s.data.toList :: seen) ∧ w.grownBy w' (some b) := by
  obtain ⟨D, h1, h2, h3⟩ := h
  have hk := keyOf_string_mk (P := Tryd.prog) Tryd.underlying9 hs
  obtain ⟨w', hrun, h4, h5⟩ := h1.update klaw Tryd.underlying71 hn hk (plainElem_int Tryd.underlying3 (a := c) (WalkArith.wf_i64 (by omega)))
  refine ⟨w', hrun, ⟨_, h4, ?_, fun nm => ?_⟩, h5⟩
  · exact h2.put _ _
  · by_cases e : nm = s.data.toList
    · subst e
      rw [atKey_put_same h2 (show WideAt.IsKeyLit (.string s.data.toList) from trivial), hc, List.count_cons_self]
    · rw [atKey_put_other (by intro h; injection h with h; exact e h), h3, List.count_cons_of_ne (Ne.symm e)]

def tagS (low : List UInt8 → List UInt8) (seen : List (List UInt8)) (s : List UInt8) : Option (List LK) × List UInt8 := tagF low (s.length + 1) seen s
theorem tagS_nil (low : List UInt8 → List UInt8) (seen : List (List UInt8)) (s : List UInt8) (h : s.dropWhile inGap = []) : tagS low seen s = (none, []) := by
  unfold tagS tagF
  rw [h]
theorem tagS_end (low : List UInt8 → List UInt8) (seen : List (List UInt8)) (s t : List UInt8) (h : s.dropWhile inGap = 62 :: t) : tagS low seen s = (some [], t) := by
  unfold tagS tagF
  rw [h]
  rfl
theorem tagS_next (low : List UInt8 → List UInt8) (seen : List (List UInt8)) (s : List UInt8) (c : UInt8) (t : List UInt8) (h : s.dropWhile inGap = c :: t) (hc : c ≠ 62) :
    tagS low seen s = ((tagS low (low (nameP (c :: t)) :: seen) (attrP (c :: t)).2).1.map (mineP seen (low (nameP (c :: t))) (attrP (c :: t)).1 ++ ·), (tagS low (low (nameP (c :: t)) :: seen) (attrP (c :: t)).2).2) := by
  have h3 := dropWhile_le_cons h
  have h4 := attr_len c t
  unfold tagS
  rw [tagF_fuel low ((attrP (c :: t)).2.length + 1) s.length _ _ (Nat.lt_succ_self _) (by omega)]
  conv => lhs; unfold tagF
  rw [h]
  simp only
  rw [if_neg hc]
end Go.Proofs.YtdlnlepecdcmjaaDoor

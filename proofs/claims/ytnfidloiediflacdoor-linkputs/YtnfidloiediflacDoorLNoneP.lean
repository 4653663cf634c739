/- LinkNone: plain facts, and rows of links that are moved on. -/
import Derived.Test.YtnfidloiediflacDoorLLinked
import Derived.Test.YtnfidloiediflacDoorLConcat
import Derived.Test.YtnfidloiediflacDoorEq
import Derived.Laws.OwnMore
namespace Go.Proofs.YtnfidloiediflacDoor
open Go.RowKit

theorem no60 {b : List UInt8} (h : b.contains 60 = false) : ∀ x ∈ b, x ≠ 60 := by
  rintro x hx rfl
  rw [List.contains_iff_mem.2 hx] at h
  cases h
/-- Where no tag can begin there is no link. -/
theorem find_noL (b : List UInt8) (h : b.contains 60 = false) (h4 : b.length ≤ 4000) : findP lowT b = some [] := by
  unfold findP
  rw [if_neg (by omega)]
  have := find_none lowT b [] b.length 0 [] (no60 h) (by simp) (Nat.le_refl _) (by simp)
  rw [List.append_nil] at this
  rw [this]
  rfl
/-- What stands behind such bytes has its links by itself. -/
theorem find_behind (b c : List UInt8) (h : b.contains 60 = false) : findP lowT (b ++ c) = if 4000 < (b ++ c).length then none else findP lowT c := by
  unfold findP
  split
  · rfl
  · rename_i h4
    rw [List.length_append] at h4
    rw [if_neg (by omega)]
    exact find_none lowT b c _ _ [] (no60 h) (by rw [List.length_append]; exact Nat.le_refl _) (Nat.le_refl _) (by simp)
theorem put_noL (b : List UInt8) (l : List LK) (hf : findP lowT b = some l) (ts : List (List UInt8)) (ht : ts = List.replicate l.length []) : putP lowT b ts = (b, 0) := by
  have h4 := (find_ord lowT b l hf).2.2
  have hall : ∀ t ∈ ts, t = [] := by subst ht; intro t h; exact List.eq_of_mem_replicate h
  have hfi := fill_nil l ts b hall
  unfold putP
  rw [hf]
  simp only
  rw [if_neg (by subst ht; simp), if_neg (by
    have : ts.all plainT = true := List.all_eq_true.2 (fun t h => by rw [hall t h]; rfl)
    rw [this]; decide), hfi, if_neg (by omega)]
/-- Links, the first k of them moved on. -/
def mv (A B k : Nat) (l : List LK) : List Value := lv A (l.take k) ++ lv B (l.drop k)
theorem mv_zero (A B : Nat) (l : List LK) : mv A B 0 l = lv B l := by simp [mv, lv]
theorem mv_all (A B : Nat) (l : List LK) : mv A B l.length l = lv A l := by simp [mv, lv]
theorem mv_length (A B k : Nat) (l : List LK) (h : k ≤ l.length) : (mv A B k l).length = l.length * 3 := by
  unfold mv
  rw [List.length_append, lv_length, lv_length, List.length_take, List.length_drop]
  omega
theorem mv_at (A B k : Nat) (l : List LK) (h : k < l.length) : ∃ P R : List Value, P.length = k * 3 ∧ mv A B k l = P ++ ((lkv B (l.getD k (0, []))).toList ++ R) ∧ mv A B (k + 1) l = P ++ ((lkv A (l.getD k (0, []))).toList ++ R) := by
  refine ⟨lv A (l.take k), lv B (l.drop (k + 1)), by rw [lv_length, List.length_take]; omega, ?_, ?_⟩
  · unfold mv
    rw [drop_at l k (0, []) h]
    simp [lv]
  · unfold mv
    have e : l.take (k + 1) = l.take k ++ [l.getD k (0, [])] := by
      rw [List.take_add_one, List.getElem?_eq_getElem h]
      simp [List.getD_eq_getElem?_getD, List.getElem?_eq_getElem h]
    rw [e, lv_snoc, List.append_assoc]
theorem mv_cells (A B k : Nat) (l : List LK) (h : k < l.length) : (mv A B k l)[k * 3]? = some (.int .i64 ((B - (l.getD k (0, [])).1 : Nat) : Int)) ∧ (mv A B k l)[k * 3 + 1]? = some (.int .i64 ((B - (l.getD k (0, [])).1 + (l.getD k (0, [])).2.length : Nat) : Int)) := by
  obtain ⟨P, R, h1, h2, _⟩ := mv_at A B k l h
  rw [h2]
  constructor
  · rw [List.getElem?_append_right (by omega), h1, Nat.sub_self]; simp [lkv]
  · rw [List.getElem?_append_right (by omega), h1, show k * 3 + 1 - k * 3 = 1 from by omega]; simp [lkv]
theorem mv_set (A B k : Nat) (l : List LK) (h : k < l.length) (x : LK) (hx : x = l.getD k (0, [])) (f t : Int) (hf : f = ((A - x.1 : Nat) : Int)) (ht : t = ((A - x.1 + x.2.length : Nat) : Int)) : ((mv A B k l).set (k * 3) (.int .i64 f)).set (k * 3 + 1) (.int .i64 t) = mv A B (k + 1) l := by
  obtain ⟨P, R, h1, h2, h3⟩ := mv_at A B k l h
  subst hx
  subst hf ht
  rw [h2, h3, List.set_append_right _ _ (by omega), List.set_append_right _ _ (by omega), h1, Nat.sub_self, show k * 3 + 1 - k * 3 = 1 from by omega]
  simp [lkv]
theorem t3_moved (a n : Nat) (l : List LK) : l.map (t3 (a + n)) = l.map (t3 (a + n)) := rfl
end Go.Proofs.YtnfidloiediflacDoor

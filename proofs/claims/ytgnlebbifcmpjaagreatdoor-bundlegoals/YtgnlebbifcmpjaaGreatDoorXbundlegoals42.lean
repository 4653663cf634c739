/- The law BundleGoals' own function: what stands ahead of '#'. -/
import Derived.Test.YtgnlebbifcmpjaaGreatDoorXbundlegoals35
import Derived.Test.YtgnlebbifcmpjaaGreatDoorXbundlegoals27
import Derived.Lib.SplitLaws
namespace Go.Proofs.YtgnlebbifcmpjaaGreatDoor
open Go.RowKit

theorem noFr_none {l : List UInt8} (h : Lib.indexByte l 35 = -1) : noFr l = l := by
  have h1 := Lib.indexByte_none h
  unfold noFr
  cases hc : cutB 35 l with
  | none => rfl
  | some x =>
    obtain ⟨a, b⟩ := x
    have e := (cutB_some 35 l a b hc).1
    exact absurd (by rw [e]; simp) (h1 a.length)
theorem noFr_some {l : List UInt8} {i : Nat} (h : Lib.indexByte l 35 = i) : noFr l = l.take i := by
  obtain ⟨h1, h2⟩ := Lib.indexByte_some h
  have hi : i < l.length := (List.getElem?_eq_some_iff.1 h1).1
  have e : l = l.take i ++ 35 :: l.drop (i + 1) := by
    have := List.drop_eq_getElem_cons hi
    have h3 : l[i] = 35 := (List.getElem?_eq_some_iff.1 h1).2
    rw [h3] at this
    rw [← this, List.take_append_drop]
  have ha : ∀ c ∈ l.take i, c ≠ 35 := by
    intro c hc
    obtain ⟨k, hk, rfl⟩ := List.getElem_of_mem hc
    rw [List.length_take] at hk
    have := h2 k (by omega)
    rw [List.getElem_take]
    intro e2
    rw [List.getElem?_eq_getElem (by omega), e2] at this
    exact this rfl
  unfold noFr
  have e3 := cutB_at 35 (l.take i) (l.drop (i + 1)) ha
  rw [← e] at e3
  rw [e3]
theorem split_head (s : ByteArray) : ∃ t, Lib.splitB ⟨#[35]⟩ 0 (min 2 (s.size + 1) - 1) s = tx8 (noFr s.data.toList) :: t := by
  have e1 : Lib.indexB s ⟨#[35]⟩ = Lib.indexByte s.data.toList 35 := Lib.index_one _ _
  rcases (by have := Lib.indexByte_ge s.data.toList 35; omega : Lib.indexByte s.data.toList 35 = -1 ∨ 0 ≤ Lib.indexByte s.data.toList 35) with h | h
  · rw [Lib.splitB_miss _ _ _ _ (e1.trans h), noFr_none h]
    exact ⟨[], rfl⟩
  · obtain ⟨i, hi⟩ : ∃ i : Nat, Lib.indexByte s.data.toList 35 = i := ⟨_, (Int.toNat_of_nonneg h).symm⟩
    have hl : i < s.data.toList.length := (List.getElem?_eq_some_iff.1 (Lib.indexByte_some hi).1).1
    rw [← Lib.size_eq] at hl
    have e2 : min 2 (s.size + 1) - 1 = 0 + 1 := by omega
    rw [e2, Lib.splitB_hit _ _ 0 s i (e1.trans hi), noFr_some hi]
    refine ⟨_, congrArg (· :: _) ?_⟩
    apply ByteArray.ext
    apply Array.ext'
    rw [tx8_data, Nat.add_zero, Lib.extract_from_zero]
theorem cells_head (x : ByteArray) (t : List ByteArray) (N : Nat) : (Lib.cellsOf (x :: t) N)[0]? = some (.string x) := by
  unfold Lib.cellsOf
  simp
set_option maxHeartbeats 2000000 in
theorem bare_any (s : ByteArray) (hs : s.size ≤ 4000) (w : World) (hm : MaxAt w) :
    Calls Tryz.prog 20 #[.string s] w fun e w' => e = .returned (.string (tx8 (noFr s.data.toList))) ∧ Below w.heap.size w w' := by
  obtain ⟨mx, hmx⟩ := hm
  have C := Tryz.strings_SplitN s ⟨#[35]⟩ 2 mx w (by omega) hmx (by decide) (by decide) (by decide)
  obtain ⟨t, ht⟩ := split_head s
  rw [ht] at C
  have hc := cells_head (tx8 (noFr s.data.toList)) t (min 2 (s.size + 1))
  obtain ⟨n, hn⟩ : ∃ n, (tx8 (noFr s.data.toList) :: t).length = n := ⟨_, rfl⟩
  have hn0 : 0 < n := by rw [← hn]; simp
  rw [hn] at C
  generalize Lib.cellsOf (tx8 (noFr s.data.toList) :: t) (min 2 (s.size + 1)) = CS at *
  generalize min 2 (s.size + 1) = cp at *
  generalize tx8 (noFr s.data.toList) = R at *
  clear ht hn
  have C' : Hid (Calls _ _ _ _ _) := C
  clear C
  have hn0' : (0 : Int) < (n : Int) := by omega
  go_enter Tryz.func20, Tryz.ntmps20
  go_wp2_with fail
  refine C'.out.mono ?_
  rintro e w1 ⟨rfl, rfl⟩
  have hcell : (w.alloc (.cells CS 9)).cell? ⟨w.heap.size, 0, none⟩ = some (.string R) := by rw [blk_c (blk_new w _) 0]; exact hc
  go_wp2_with fail
  go_ret
  exact ⟨rfl, (Below.refl _ _).alloc (Nat.le_refl _) _⟩
end Go.Proofs.YtgnlebbifcmpjaaGreatDoor

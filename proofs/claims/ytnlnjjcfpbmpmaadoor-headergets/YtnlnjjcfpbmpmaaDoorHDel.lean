/- slices.IndexFunc, slices.DeleteFunc of fields that the caller owns, by the law's test on names; slices.Clone of fields. What the caller does not own is as it was. Conditions: names of ASCII letters; at most a hundred fields. -/
import Derived.Test.YtnlnjjcfpbmpmaaDoorHGet
import Derived.Test.YtnlnjjcfpbmpmaaDoorPlainE
import Derived.Test.YtnlnjjcfpbmpmaaDoorHLine
import Derived.Laws.AppendOwnNone
import Derived.Laws.CopyRow
import Derived.Laws.Cover3
import Derived.Deep.RegionHeld3
namespace Go.Proofs.YtnlnjjcfpbmpmaaDoor
open Go.RowKit

/-- The same name, but for large and small letters. -/
def sameN (NM s : ByteArray) : Bool := Lib.equalFold s.data.toList NM.data.toList
def AsciiB (s : ByteArray) : Prop := s.size ≤ 1000000 ∧ ∀ c ∈ s.data.toList, c.toNat < 128

theorem del_test (g : Nat) (NM A V : ByteArray) (hA : AsciiB A) (hN : AsciiB NM) (w : World) (hc : w.cell? ⟨g, 0, none⟩ = some (.string NM)) :
    Calls Tryd.prog 47 #[.agg #[.string A, .string V], .pointer (some ⟨g, 0, none⟩)] w fun e w' => e = .returned (.bool (sameN NM A)) ∧ Below w.heap.size w w' := by
  have CF : Hid (∀ w, Calls Tryd.prog 48 #[.string A, .string NM] w fun e w' => e = .returned (.bool (sameN NM A)) ∧ Below w.heap.size w w') := fun w => fold_ascii A NM hA.1 hA.2 hN.2 w
  have hgl : g < w.heap.size := World.block_lt_of_cell? w _ hc
  have hgn : ¬ g = w.heap.size := by omega
  generalize sameN NM A = T at *
  clear hA hN
  go_enter Tryd.func47, Tryd.ntmps47
  go_wp2_with fail
  refine (CF.out _).mono ?_
  rintro e w1 ⟨rfl, hb1⟩
  clear CF
  go_wp2
  go_ret
  exact ⟨rfl, ((Below.refl _ _).alloc (Nat.le_refl _) _).trans (hb1.mono (by simp))⟩

set_option maxHeartbeats 1000000 in
theorem find_some (g : Nat) (NM : ByteArray) (hN : AsciiB NM) (idx : Int) (b o n c : Nat) (l : List FV) (en : n = l.length) (w : World) (h0 : 1 ≤ n) (hn : n ≤ 100) (ha : ∀ f ∈ l, AsciiB f.1) (hg : w.cell? ⟨g, 0, none⟩ = some (.string NM))
    (hi1 : ∀ j, j < n → ((j : Int) < idx ∨ idx = -1) → sameN NM (l.getD j default).1 = false) (hi2 : ∀ j, j < n → (j : Int) = idx → sameN NM (l.getD j default).1 = true) (hi3 : idx < (n : Int)) (hi4 : -1 ≤ idx)
    (hc : ∀ i, i < n → w.cell? ⟨b, o + i * 2, none⟩ = some (.string (l.getD i default).1) ∧ w.cell? ⟨b, o + i * 2 + 1, none⟩ = some (.string (l.getD i default).2)) :
    Calls Tryd.prog 86 #[.slice (some ⟨b, o, none⟩) n c, .func (Fn.func 47) #[] #[.pointer (some ⟨g, 0, none⟩)]] w fun e w' => e = .returned (.int .i64 idx) ∧ Below w.heap.size w w' := by
  have hbB : b < w.heap.size := World.block_lt_of_cell? w _ (hc 0 (by omega)).1
  have hgB : g < w.heap.size := World.block_lt_of_cell? w _ hg
  have HL : Hid (n = l.length) := en
  have HA : Hid (∀ f ∈ l, AsciiB f.1) := ha
  have HI1 : Hid (∀ j, j < n → ((j : Int) < idx ∨ idx = -1) → sameN NM (l.getD j default).1 = false) := hi1
  have HI2 : Hid (∀ j, j < n → (j : Int) = idx → sameN NM (l.getD j default).1 = true) := hi2
  have HG : Hid (w.cell? ⟨g, 0, none⟩ = some (.string NM)) := hg
  clear en ha hi1 hi2 hg
  go_enter Tryd.func86, Tryd.ntmps86
  go_wp2
  go_loopw [8] (fun iv wr => ∃ k : Nat, k ≤ n ∧ iv = .int .i64 k ∧ Below w.heap.size w wr ∧ Hid (idx = -1 ∨ (k : Int) ≤ idx)) (fun iv _ => n - (intOf iv).toNat)
  case atStart => exact ⟨0, Nat.zero_le _, rfl, Below.refl _ _, by unfold Hid; omega⟩
  case round =>
    obtain ⟨k, hk, rfl, hbel, HK⟩ := hrel
    have hsz := hbel.size
    by_cases hlt : k < n
    · have hc1 : wr.cell? ⟨b, o + k * 2, none⟩ = some (.string (l.getD k default).1) := (hbel.cell (p := ⟨b, o + k * 2, none⟩) hbB).trans (hc k hlt).1
      have hc2 : wr.cell? ⟨b, o + k * 2 + 1, none⟩ = some (.string (l.getD k default).2) := (hbel.cell (p := ⟨b, o + k * 2 + 1, none⟩) hbB).trans (hc k hlt).2
      have hcg : wr.cell? ⟨g, 0, none⟩ = some (.string NM) := (hbel.cell (p := ⟨g, 0, none⟩) hgB).trans HG.out
      have hAk := HA.out _ (fv_mem l k (by rw [← HL.out]; exact hlt))
      have CD := del_test g NM (l.getD k default).1 (l.getD k default).2 hAk hN wr hcg
      by_cases hki : (k : Int) = idx
      · have HN : Hid ((k : Int) = idx) := hki
        rw [HI2.out k hlt hki] at CD
        clear hc hAk hki hcg
        generalize l.getD k default = f at *
        obtain ⟨A, B⟩ := f
        simp only at hc1 hc2 CD
        have CD' : Hid (Calls Tryd.prog 47 #[.agg #[.string A, .string B], .pointer (some ⟨g, 0, none⟩)] wr fun e w' => e = .returned (.bool true) ∧ Below wr.heap.size wr w') := CD
        clear CD
        go_wp2_with fail
        refine CD'.out.mono ?_
        rintro e w1 ⟨rfl, hb1⟩
        clear CD'
        go_wp2
        go_ret
        exact ⟨by rw [← HN.out]; rfl, hbel.trans (hb1.mono hsz)⟩
      · have HN : Hid (idx = -1 ∨ ((k + 1 : Nat) : Int) ≤ idx) := by have := HK.out; unfold Hid; omega
        rw [HI1.out k hlt (by have := HK.out; omega)] at CD
        clear hc hAk hki hcg
        generalize l.getD k default = f at *
        obtain ⟨A, B⟩ := f
        simp only at hc1 hc2 CD
        have CD' : Hid (Calls Tryd.prog 47 #[.agg #[.string A, .string B], .pointer (some ⟨g, 0, none⟩)] wr fun e w' => e = .returned (.bool false) ∧ Below wr.heap.size wr w') := CD
        clear CD
        go_wp2_with fail
        refine CD'.out.mono ?_
        rintro e w1 ⟨rfl, hb1⟩
        clear CD'
        go_wp2
        go_roundw
        case rel => exact ⟨k + 1, by omega, by go_num, hbel.trans (hb1.mono hsz), HN⟩
        case measure => simp [intOf]; omega
    · obtain rfl : k = n := by omega
      have HN : Hid (idx = -1) := by have := HK.out; unfold Hid; omega
      clear hc
      go_wp2
      go_ret
      exact ⟨by rw [HN.out]; rfl, hbel⟩

theorem find_nil (g : Nat) (p : Option Addr) (c : Nat) (w : World) :
    Calls Tryd.prog 86 #[.slice p 0 c, .func (Fn.func 47) #[] #[.pointer (some ⟨g, 0, none⟩)]] w fun e w' => e = .returned (.int .i64 (-1)) ∧ w' = w := by
  go_enter Tryd.func86, Tryd.ntmps86
  go_wp2
  refine wp_loop_rounds 1 ?_
  rw [rounds_succ]
  go_wp2
  go_ret
  exact ⟨rfl, rfl⟩

def kept (NM : ByteArray) (l : List FV) : List FV := l.filter fun f => !sameN NM f.1

/-- A part of an owned row, from its beginning. -/
theorem own_prefix {w : World} {B g n cap i : Nat} {xs : List Value} (h : w.ownsRow B 51 2 (.slice (some ⟨g, 0, none⟩) n cap) n xs) (hi : i ≤ n) : w.ownsRow B 51 2 (.slice (some ⟨g, 0, none⟩) i cap) i (xs.take (i * 2)) := by
  rcases h.2 with ⟨h', _⟩ | ⟨g', cap', cur, h', hb, hg, hnc, hcm, hcs, htake⟩
  · simp at h'
  · simp only [Value.slice.injEq, Option.some.injEq, Addr.mk.injEq, and_true, true_and] at h'
    obtain ⟨rfl, rfl⟩ := h'
    refine ⟨?_, .inr ⟨g, cap, cur, rfl, hb, hg, by omega, hcm, hcs, ?_⟩⟩
    · rw [List.length_take, h.1]; omega
    · rw [← htake, List.take_take, Nat.min_eq_left (by omega)]

theorem zero_field (w : World) : (zeroValue 51).run Tryd.prog w = .ok (.agg #[.string ⟨#[]⟩, .string ⟨#[]⟩]) w := by kernel_rfl

/-- 'clear' of what is behind the first i of an owned row. -/
theorem clear_tail {w : World} {B g n cap i : Nat} {xs : List Value} (h : w.ownsRow B 51 2 (.slice (some ⟨g, 0, none⟩) n cap) n xs) (hi : i < n) :
    ∃ w', (∀ ty, (Builtin.clear_ #[40] ty #[.slice (some ⟨g, i * 2, none⟩) (n - i) (cap - i)]).run Tryd.prog w = .ok (.tuple #[]) w') ∧ w'.ownsRow B 51 2 (.slice (some ⟨g, 0, none⟩) i cap) i (xs.take (i * 2)) ∧ Below B w w' := by
  rcases h.2 with ⟨h', _⟩ | ⟨g', cap', cur, h', hb, hg, hnc, hcm, hcs, htake⟩
  · simp at h'
  · simp only [Value.slice.injEq, Option.some.injEq, Addr.mk.injEq, and_true, true_and] at h'
    obtain ⟨rfl, rfl⟩ := h'
    obtain ⟨m, hm⟩ : ∃ m, n - i = m + 1 := ⟨n - i - 1, by omega⟩
    have hzl : (Builtin.zeroCells (Value.agg #[.string ⟨#[]⟩, .string ⟨#[]⟩]).cells (n - i)).toList.length = (n - i) * 2 := by
      rw [Array.length_toList, size_zeroCells]; rfl
    have hst := run_storeCells_at (P := Tryd.prog) g (i * 2) 51 (Builtin.zeroCells (Value.agg #[.string ⟨#[]⟩, .string ⟨#[]⟩]).cells (n - i)).toList 0 cur w hg (by rw [hzl, hcs]; omega) (fun v hv => by
      have hv' : v ∈ Builtin.zeroCells (Value.agg #[.string ⟨#[]⟩, .string ⟨#[]⟩]).cells (n - i) := by simpa using hv
      unfold Builtin.zeroCells at hv'
      rw [Array.mem_map] at hv'
      obtain ⟨q, _, rfl⟩ := hv'
      show ((#[Value.string ⟨#[]⟩, Value.string ⟨#[]⟩] : Array Value)[q % 2]!).oneCell' = true
      rcases Nat.mod_two_eq_zero_or_one q with e | e <;> rw [e] <;> rfl)
    rw [Nat.add_zero, hzl, show i * 2 + (n - i) * 2 = n * 2 from by omega] at hst
    refine ⟨w.setRow g (cur.toList.take (i * 2) ++ (Builtin.zeroCells (Value.agg #[.string ⟨#[]⟩, .string ⟨#[]⟩]).cells (n - i)).toList ++ cur.toList.drop (n * 2)).toArray, ?_, ⟨?_, .inr ⟨g, cap, _, rfl, hb, setRow_heap w g cur _ _ _ hg, by omega, hcm, ?_, ?_⟩⟩, ⟨rfl, rfl, rfl, by simp [World.setRow], fun k hk => setRow_other w g k _ (by omega)⟩⟩
    · rw [hm] at hst ⊢
      intro ty
      simp only [Builtin.clear_]
      simp [run_underlying Tryd.underlying40, hst]
    · rw [List.length_take, h.1]; omega
    · rw [List.size_toArray, List.length_append, List.length_append, hzl, List.length_take, List.length_drop, Array.length_toList, hcs]; omega
    · rw [← htake, List.take_take, Nat.min_eq_left (by omega)]
      show List.take (i * 2) (cur.toList.take (i * 2) ++ _ ++ _) = _
      rw [List.append_assoc, List.take_append_of_le_length (by rw [List.length_take, Array.length_toList, hcs]; omega), List.take_take, Nat.min_self]
end Go.Proofs.YtnlnjjcfpbmpmaaDoor

/- The reference's FieldsText of right fields: each on a line, and an empty one. Nothing that was there is changed. Conditions: the fields lie there, and are right ones. -/
import Derived.Test.YtnmmlbgadibimaaDoorChecks
namespace Go.Proofs.YtnmmlbgadibimaaDoor
open Go.RowKit

def linesV (l : List FV) : List UInt8 := (l.map fl).flatMap lineF
def textV (l : List FV) : List UInt8 := textF (l.map fl)
theorem textV_eq (l : List FV) : textV l = linesV l ++ [13, 10] := rfl
theorem linesV_take (l : List FV) (k : Nat) (h : k < l.length) : linesV (l.take (k + 1)) = linesV (l.take k) ++ lineF (fl (l.getD k default)) := by
  have e : l.take (k + 1) = l.take k ++ [l.getD k default] := by
    rw [List.take_add_one, List.getElem?_eq_getElem h]
    simp [List.getD_eq_getElem?_getD, List.getElem?_eq_getElem h]
  rw [linesV, e, List.map_append, List.flatMap_append]
  simp [linesV]

theorem ok_sizes (f : FV) (h : okF (fl f) = true) : 1 ≤ f.1.size ∧ f.1.size ≤ 30 ∧ f.2.size ≤ 900 := by
  rw [okF, Bool.and_eq_true] at h
  obtain ⟨ht, hv⟩ := h
  rw [tokenS, Bool.and_eq_true, Bool.and_eq_true] at ht
  rw [valueS, Bool.and_eq_true, Bool.and_eq_true, Bool.and_eq_true] at hv
  have a := of_decide_eq_true ht.1.1
  have b := of_decide_eq_true ht.1.2
  have c := of_decide_eq_true hv.1.1.1
  simp only [fl] at a b c
  rw [← Lib.size_eq] at a b c
  exact ⟨a, b, c⟩
theorem okAll_at (l : List FV) (h : okAll l = true) (k : Nat) (hk : k < l.length) : okF (fl (l.getD k default)) = true := List.all_eq_true.1 h _ (fv_mem l k hk)
theorem lineF_length (f : FV) : (lineF (fl f)).length = f.1.size + f.2.size + 4 := by
  simp only [lineF, fl, List.length_append, List.length_cons, List.length_nil]
  rw [← Lib.size_eq, ← Lib.size_eq]; omega
theorem linesV_length (l : List FV) (h : okAll l = true) : ∀ k, k ≤ l.length → (linesV (l.take k)).length ≤ 934 * k := by
  intro k
  induction k with
  | zero => intro _; simp [linesV]
  | succ k ih =>
    intro hk
    rw [linesV_take l k (by omega), List.length_append, lineF_length]
    have := ih (by omega)
    have := ok_sizes _ (okAll_at l h k (by omega))
    omega

theorem size_of {s : ByteArray} {x : List UInt8} (h : s.data.toList = x) : s.size = x.length := by rw [Lib.size_eq, h]

theorem strl_eq {s : ByteArray} {l : List UInt8} (h : s.data.toList = l) : Value.string s = .string ⟨l.toArray⟩ := by
  subst h
  rfl

theorem ftext_nil (p : Option Addr) (c : Nat) (w : World) :
    Calls Tryd.prog 39 #[.slice p 0 c] w fun e w' => e = .returned (.string ⟨(textV []).toArray⟩) ∧ w' = w := by
  go_enter Tryd.func39, Tryd.ntmps39
  go_wp2
  refine wp_loop_rounds 1 ?_
  rw [rounds_succ]
  go_wp2
  go_ret
  exact ⟨rfl, rfl⟩

set_option maxHeartbeats 1000000 in
theorem ftext_some (b o n c : Nat) (l : List FV) (en : n = l.length) (w : World) (h0 : 1 ≤ n) (h : n ≤ 20) (hl : okAll l = true)
    (hc : ∀ i, i < n → w.cell? ⟨b, o + i * 2, none⟩ = some (.string (l.getD i default).1) ∧ w.cell? ⟨b, o + i * 2 + 1, none⟩ = some (.string (l.getD i default).2)) :
    Calls Tryd.prog 39 #[.slice (some ⟨b, o, none⟩) n c] w fun e w' => e = .returned (.string ⟨(textV l).toArray⟩) ∧ Below w.heap.size w w' := by
  have hbB : b < w.heap.size := World.block_lt_of_cell? w _ (hc 0 (by omega)).1
  have HL : Hid (n = l.length) := en
  have HO : Hid (okAll l = true) := hl
  clear en hl
  go_enter Tryd.func39, Tryd.ntmps39
  go_wp2
  go_loopw [3, 8] (fun sv iv wr => ∃ (k : Nat) (T : ByteArray), k ≤ n ∧ iv = .int .i64 k ∧ sv = .string T ∧ T.size ≤ 934 * k ∧ Below w.heap.size w wr ∧ Hid (T.data.toList = linesV (l.take k))) (fun _ iv _ => n - (intOf iv).toNat)
  case atStart => exact ⟨0, ⟨#[]⟩, Nat.zero_le _, rfl, rfl, Nat.zero_le _, Below.refl _ _, rfl⟩
  case round =>
    obtain ⟨k, T, hk, rfl, rfl, hT, hbel, HK⟩ := hrel
    have hsz := hbel.size
    by_cases hlt : k < n
    · have hc1 : wr.cell? ⟨b, o + k * 2, none⟩ = some (.string (l.getD k default).1) := (hbel.cell (p := ⟨b, o + k * 2, none⟩) hbB).trans (hc k hlt).1
      have hc2 : wr.cell? ⟨b, o + k * 2 + 1, none⟩ = some (.string (l.getD k default).2) := (hbel.cell (p := ⟨b, o + k * 2 + 1, none⟩) hbB).trans (hc k hlt).2
      have hm := ok_sizes _ (okAll_at l HO.out k (by rw [← HL.out]; exact hlt))
      have HN : Hid (linesV (l.take (k + 1)) = linesV (l.take k) ++ lineF (fl (l.getD k default))) := linesV_take l k (by rw [← HL.out]; exact hlt)
      clear hc
      generalize l.getD k default = f at *
      obtain ⟨A, B⟩ := f
      simp only at hc1 hc2 hm
      go_wp2
      go_roundw
      case rel =>
        refine ⟨k + 1, _, by omega, by go_num, rfl, ?_, hbel.alloc hsz _, ?_⟩
        · refine Nat.le_trans (Nat.le_of_eq (size_of (x := linesV (l.take k) ++ lineF (fl (A, B))) ?_)) ?_
          · rw [← HK.out]
            simp [lineF, fl]
          · rw [List.length_append, ← HK.out, ← Lib.size_eq, lineF_length]
            simp only
            omega
        · unfold Hid
          rw [HN.out, ← HK.out]
          simp [lineF, fl]
      case measure => simp [intOf]; omega
    · obtain rfl : k = n := by omega
      have HN : Hid (linesV l = T.data.toList) := by unfold Hid; rw [HK.out, HL.out, List.take_length]
      clear hc
      go_wp2
      go_ret
      exact ⟨congrArg Ending.returned (strl_eq (by rw [textV_eq, HN.out]; simp)), hbel⟩

/-- The reference's FieldsText. -/
theorem ftext_any (p : Option Addr) (n c : Nat) (l : List FV) (en : n = l.length) (w : World) (h : checkV l = 0) (hr : FRow w p l) :
    Calls Tryd.prog 39 #[.slice p n c] w fun e w' => e = .returned (.string ⟨(textV l).toArray⟩) ∧ Below w.heap.size w w' := by
  by_cases h0 : l = []
  · subst h0
    obtain rfl : n = 0 := en
    refine (ftext_nil p c w).mono ?_
    rintro e w' ⟨rfl, rfl⟩
    exact ⟨rfl, Below.refl _ _⟩
  · obtain ⟨b, o, rfl, hc⟩ := hr h0
    rw [← en] at hc
    have h20 : l.length ≤ 20 := by
      unfold checkV at h
      split at h
      · cases h
      · omega
    have hok : okAll l = true := by
      rw [checkV, if_neg (by omega)] at h
      cases hb : okAll l
      · rw [badN_no hb] at h; cases h
      · rfl
    exact ftext_some b o n c l en w (by rw [en]; exact List.length_pos_iff.2 h0) (by omega) hok hc
end Go.Proofs.YtnmmlbgadibimaaDoor

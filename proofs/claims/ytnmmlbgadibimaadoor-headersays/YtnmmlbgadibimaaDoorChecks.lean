/- The reference's CheckFields and FieldsText: what the plain functions say; nothing that was there is changed. Conditions: the fields lie there. -/
import Derived.Test.YtnmmlbgadibimaaDoorFields
namespace Go.Proofs.YtnmmlbgadibimaaDoor
open Go.RowKit

/-- A field as it lies in memory: two texts. -/
abbrev FV := ByteArray × ByteArray
def fl (f : FV) : Fld := (f.1.data.toList, f.2.data.toList)
/-- The fields l lie behind the address p. -/
def FRow (w : World) (p : Option Addr) (l : List FV) : Prop :=
  l ≠ [] → ∃ b o, p = some ⟨b, o, none⟩ ∧ ∀ i, i < l.length → w.cell? ⟨b, o + i * 2, none⟩ = some (.string (l.getD i default).1) ∧ w.cell? ⟨b, o + i * 2 + 1, none⟩ = some (.string (l.getD i default).2)
/-- Texts as long as a text can be. -/
def FLen (l : List FV) : Prop := ∀ f ∈ l, f.1.size ≤ maxLen ∧ f.2.size ≤ maxLen

theorem FRow.below {w w' : World} {p : Option Addr} {l : List FV} (h : FRow w p l) (hb : Below w.heap.size w w') : FRow w' p l := by
  intro hne
  obtain ⟨b, o, rfl, hc⟩ := h hne
  refine ⟨b, o, rfl, fun i hi => ?_⟩
  have := hc i hi
  rw [hb.cell (p := ⟨b, o + i * 2, none⟩) (World.block_lt_of_cell? w _ this.1), hb.cell (p := ⟨b, o + i * 2 + 1, none⟩) (World.block_lt_of_cell? w _ this.2)]
  exact this

theorem fv_at (l : List FV) (k : Nat) (h : k < l.length) : l.drop k = l.getD k default :: l.drop (k + 1) := by
  rw [List.drop_eq_getElem_cons h]
  simp [List.getD_eq_getElem?_getD, List.getElem?_eq_getElem h]
theorem fv_mem (l : List FV) (k : Nat) (h : k < l.length) : l.getD k default ∈ l := by
  simp [List.getD_eq_getElem?_getD, List.getElem?_eq_getElem h]

def okAll (l : List FV) : Bool := l.all fun f => okF (fl f)
theorem okAll_cons (f : FV) (l : List FV) : okAll (f :: l) = (okF (fl f) && okAll l) := rfl
def badN (l : List FV) : Nat := if okAll l = true then 0 else 1
theorem badN_yes {l : List FV} (h : okAll l = true) : badN l = 0 := by rw [badN, if_pos h]
theorem badN_no {l : List FV} (h : okAll l = false) : badN l = 1 := by rw [badN, if_neg (by simp [h])]
def checkV (l : List FV) : Nat := if 20 < l.length then 2 else badN l

theorem check_many (p : Option Addr) (n c : Nat) (w : World) (hm : n ≤ maxLen) (h : 20 < n) :
    Calls Tryd.prog 32 #[.slice p n c] w fun e w' => e = .returned (.int .i64 2) ∧ w' = w := by
  unfold maxLen at hm
  have h' : (20 : Int) < (n : Int) := by omega
  go_enter Tryd.func32, Tryd.ntmps32
  go_wp2
  go_ret
  exact ⟨rfl, rfl⟩

set_option maxHeartbeats 1000000 in
theorem check_some (b o n c : Nat) (l : List FV) (en : n = l.length) (w : World) (h0 : 1 ≤ n) (h : n ≤ 20) (hl : FLen l)
    (hc : ∀ i, i < n → w.cell? ⟨b, o + i * 2, none⟩ = some (.string (l.getD i default).1) ∧ w.cell? ⟨b, o + i * 2 + 1, none⟩ = some (.string (l.getD i default).2)) :
    Calls Tryd.prog 32 #[.slice (some ⟨b, o, none⟩) n c] w fun e w' => e = .returned (.int .i64 (badN l : Nat)) ∧ Below w.heap.size w w' := by
  have hbB : b < w.heap.size := World.block_lt_of_cell? w _ (hc 0 (by omega)).1
  have HL : Hid (n = l.length) := en
  have HLen : Hid (FLen l) := hl
  clear en hl
  go_enter Tryd.func32, Tryd.ntmps32
  go_wp2
  go_loopw [10] (fun iv wr => ∃ k : Nat, k ≤ n ∧ iv = .int .i64 k ∧ Below w.heap.size w wr ∧ Hid (okAll (l.drop k) = okAll l)) (fun iv _ => n - (intOf iv).toNat)
  case atStart => exact ⟨0, Nat.zero_le _, rfl, Below.refl _ _, rfl⟩
  case round =>
    obtain ⟨k, hk, rfl, hbel, HK⟩ := hrel
    have hsz := hbel.size
    by_cases hlt : k < n
    · have hc1 : wr.cell? ⟨b, o + k * 2, none⟩ = some (.string (l.getD k default).1) := (hbel.cell (p := ⟨b, o + k * 2, none⟩) hbB).trans (hc k hlt).1
      have hc2 : wr.cell? ⟨b, o + k * 2 + 1, none⟩ = some (.string (l.getD k default).2) := (hbel.cell (p := ⟨b, o + k * 2 + 1, none⟩) hbB).trans (hc k hlt).2
      have hm := HLen.out _ (fv_mem l k (by rw [← HL.out]; exact hlt))
      have hdr : Hid (okAll l = (okF (fl (l.getD k default)) && okAll (l.drop (k + 1)))) := by unfold Hid; rw [← HK.out, fv_at l k (by rw [← HL.out]; exact hlt), okAll_cons]
      clear hc HK
      generalize l.getD k default = f at *
      obtain ⟨A, B⟩ := f
      simp only at hc1 hc2 hm
      have HF : Hid (okF (fl (A, B)) = (tokenS A.data.toList && valueS B.data.toList)) := rfl
      have K1 := token_any A
      have K2 := value_any B
      obtain ⟨T1, hT1⟩ : ∃ b, tokenS A.data.toList = b := ⟨_, rfl⟩
      obtain ⟨T2, hT2⟩ : ∃ b, valueS B.data.toList = b := ⟨_, rfl⟩
      rw [hT1] at K1 HF
      rw [hT2] at K2 HF
      have C1 : Hid (∀ w, Calls Tryd.prog 35 #[.string A] w fun e w' => e = .returned (.bool T1) ∧ w' = w) := fun w => K1 w hm.1
      have C2 : Hid (∀ w, Calls Tryd.prog 37 #[.string B] w fun e w' => e = .returned (.bool T2) ∧ w' = w) := fun w => K2 w hm.2
      clear K1 K2 hT1 hT2 hm
      cases T1
      · have HN : Hid (badN l = 1) := badN_no (by rw [hdr.out, HF.out]; rfl)
        go_wp2_with (first | (go_at_call 35; refine (C1.out _).mono ?_; rintro e w' ⟨rfl, hw'⟩; have hw'' := hw'.symm; subst hw'') | (go_at_call 37; refine (C2.out _).mono ?_; rintro e w' ⟨rfl, hw'⟩; have hw'' := hw'.symm; subst hw''))
        go_ret
        exact ⟨by rw [HN.out]; rfl, hbel.alloc hsz _⟩
      · cases T2
        · have HN : Hid (badN l = 1) := badN_no (by rw [hdr.out, HF.out]; rfl)
          go_wp2_with (first | (go_at_call 35; refine (C1.out _).mono ?_; rintro e w' ⟨rfl, hw'⟩; have hw'' := hw'.symm; subst hw'') | (go_at_call 37; refine (C2.out _).mono ?_; rintro e w' ⟨rfl, hw'⟩; have hw'' := hw'.symm; subst hw''))
          go_ret
          exact ⟨by rw [HN.out]; rfl, hbel.alloc hsz _⟩
        · have HN : Hid (okAll (l.drop (k + 1)) = okAll l) := by unfold Hid; rw [hdr.out, HF.out]; rfl
          go_wp2_with (first | (go_at_call 35; refine (C1.out _).mono ?_; rintro e w' ⟨rfl, hw'⟩; have hw'' := hw'.symm; subst hw'') | (go_at_call 37; refine (C2.out _).mono ?_; rintro e w' ⟨rfl, hw'⟩; have hw'' := hw'.symm; subst hw''))
          go_roundw
          case rel => exact ⟨k + 1, by omega, by go_num, hbel.alloc hsz _, HN⟩
          case measure => simp [intOf]; omega
    · obtain rfl : k = n := by omega
      have HN : Hid (badN l = 0) := badN_yes (by rw [← HK.out, HL.out, List.drop_length]; rfl)
      clear hc
      go_wp2
      go_ret
      exact ⟨by rw [HN.out]; rfl, hbel⟩

/-- The reference's CheckFields. -/
theorem check_any (p : Option Addr) (n c : Nat) (l : List FV) (en : n = l.length) (w : World) (hm : n ≤ maxLen) (hl : FLen l) (hr : FRow w p l) :
    Calls Tryd.prog 32 #[.slice p n c] w fun e w' => e = .returned (.int .i64 (checkV l : Nat)) ∧ Below w.heap.size w w' := by
  by_cases h : 20 < n
  · refine (check_many p n c w hm h).mono ?_
    rintro e w' ⟨rfl, rfl⟩
    exact ⟨by rw [checkV, if_pos (by rw [← en]; exact h)]; rfl, Below.refl _ _⟩
  · by_cases h0 : l = []
    · subst h0
      obtain rfl : n = 0 := en
      go_enter Tryd.func32, Tryd.ntmps32
      go_wp2
      refine wp_loop_rounds 1 ?_
      rw [rounds_succ]
      go_wp2
      go_ret
      exact ⟨rfl, Below.refl _ _⟩
    · obtain ⟨b, o, rfl, hc⟩ := hr h0
      rw [← en] at hc
      have := check_some b o n c l en w (by rw [en]; exact List.length_pos_iff.2 h0) (by omega) hl hc
      rw [checkV, if_neg (by rw [← en]; exact h)]
      exact this
end Go.Proofs.YtnmmlbgadibimaaDoor

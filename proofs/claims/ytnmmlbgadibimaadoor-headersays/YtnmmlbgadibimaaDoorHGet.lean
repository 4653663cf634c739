/- header.Get, by whatever strings.EqualFold answers at these names: the value of the first that has this name. slices.Equal of fields. Nothing that was there is changed. Conditions: the fields lie there. -/
import Derived.Test.YtnmmlbgadibimaaDoorChecks
import Derived.Test.YtnmmlbgadibimaaDoorHCut
namespace Go.Proofs.YtnmmlbgadibimaaDoor
open Go.RowKit

def getE (E : ByteArray → Bool) (l : List FV) : ByteArray := match l.find? (fun f => E f.1) with | none => ⟨#[]⟩ | some f => f.2
theorem getE_nil (E : ByteArray → Bool) : getE E [] = ⟨#[]⟩ := rfl
theorem getE_yes (E : ByteArray → Bool) (f : FV) (l : List FV) (h : E f.1 = true) : getE E (f :: l) = f.2 := by simp [getE, h]
theorem getE_no (E : ByteArray → Bool) (f : FV) (l : List FV) (h : E f.1 = false) : getE E (f :: l) = getE E l := by simp [getE, h]

set_option maxHeartbeats 1000000 in
theorem hget_some (E : ByteArray → Bool) (nm : ByteArray) (b o n c : Nat) (l : List FV) (en : n = l.length) (w : World) (h0 : 1 ≤ n) (hn : n ≤ maxLen)
    (hE : ∀ f ∈ l, ∀ w', Below w.heap.size w w' → Calls Tryd.prog 49 #[.string f.1, .string nm] w' fun e w'' => e = .returned (.bool (E f.1)) ∧ Below w'.heap.size w' w'')
    (hc : ∀ i, i < n → w.cell? ⟨b, o + i * 2, none⟩ = some (.string (l.getD i default).1) ∧ w.cell? ⟨b, o + i * 2 + 1, none⟩ = some (.string (l.getD i default).2)) :
    Calls Tryd.prog 40 #[.slice (some ⟨b, o, none⟩) n c, .string nm] w fun e w' => e = .returned (.string (getE E l)) ∧ Below w.heap.size w w' := by
  unfold maxLen at hn
  have hbB : b < w.heap.size := World.block_lt_of_cell? w _ (hc 0 (by omega)).1
  have HL : Hid (n = l.length) := en
  have HE : Hid (∀ f ∈ l, ∀ w', Below w.heap.size w w' → Calls Tryd.prog 49 #[.string f.1, .string nm] w' fun e w'' => e = .returned (.bool (E f.1)) ∧ Below w'.heap.size w' w'') := hE
  clear en hE
  go_enter Tryd.func40, Tryd.ntmps40
  go_wp2
  go_loopw [9] (fun iv wr => ∃ k : Nat, k ≤ n ∧ iv = .int .i64 k ∧ Below w.heap.size w wr ∧ Hid (getE E (l.drop k) = getE E l)) (fun iv _ => n - (intOf iv).toNat)
  case atStart => exact ⟨0, Nat.zero_le _, rfl, Below.refl _ _, rfl⟩
  case round =>
    obtain ⟨k, hk, rfl, hbel, HK⟩ := hrel
    have hsz := hbel.size
    by_cases hlt : k < n
    · have hkl : k < l.length := by rw [← HL.out]; exact hlt
      have hc1 : wr.cell? ⟨b, o + k * 2, none⟩ = some (.string (l.getD k default).1) := (hbel.cell (p := ⟨b, o + k * 2, none⟩) hbB).trans (hc k hlt).1
      have hc2 : wr.cell? ⟨b, o + k * 2 + 1, none⟩ = some (.string (l.getD k default).2) := (hbel.cell (p := ⟨b, o + k * 2 + 1, none⟩) hbB).trans (hc k hlt).2
      have CE : Hid (∀ w', Below w.heap.size w w' → Calls Tryd.prog 49 #[.string (l.getD k default).1, .string nm] w' fun e w'' => e = .returned (.bool (E (l.getD k default).1)) ∧ Below w'.heap.size w' w'') := HE.out _ (fv_mem l k hkl)
      have hdr := fv_at l k hkl
      have HY : Hid (E (l.getD k default).1 = true → getE E l = (l.getD k default).2) := fun h => by rw [← HK.out, hdr, getE_yes E _ _ h]
      have HN : Hid (E (l.getD k default).1 = false → getE E (l.drop (k + 1)) = getE E l) := fun h => by rw [← HK.out, hdr, getE_no E _ _ h]
      clear hc hdr HK
      generalize l.getD k default = f at *
      obtain ⟨A, B⟩ := f
      simp only at hc1 hc2 CE HY HN
      cases hE : E A
      · rw [hE] at CE
        have HN' : Hid (getE E (l.drop (k + 1)) = getE E l) := HN.out hE
        clear HY HN hE
        go_wp2_with fail
        refine (CE.out _ (hbel.alloc hsz _)).mono ?_
        rintro e w2 ⟨rfl, hb2⟩
        clear CE
        go_wp2
        go_roundw
        case rel => exact ⟨k + 1, by omega, by go_num, (hbel.alloc hsz _).trans (hb2.mono (by simp; omega)), HN'⟩
        case measure => simp [intOf]; omega
      · rw [hE] at CE
        have HY' : Hid (getE E l = B) := HY.out hE
        clear HY HN hE
        go_wp2_with fail
        refine (CE.out _ (hbel.alloc hsz _)).mono ?_
        rintro e w2 ⟨rfl, hb2⟩
        clear CE
        have hm2 : w2.cell? ⟨wr.heap.size, 1, none⟩ = some (.string B) := by rw [hb2.cell (p := ⟨wr.heap.size, 1, none⟩) (by simp)]; simp
        go_wp2
        go_ret
        exact ⟨by rw [HY'.out]; rfl, (hbel.alloc hsz _).trans (hb2.mono (by simp; omega))⟩
    · obtain rfl : k = n := by omega
      have HN : Hid (getE E l = ⟨#[]⟩) := by unfold Hid; rw [← HK.out, HL.out, List.drop_length]; rfl
      clear hc
      go_wp2
      go_ret
      exact ⟨by rw [HN.out]; rfl, hbel⟩

/-- header.Get. -/
theorem hget_any (E : ByteArray → Bool) (nm : ByteArray) (p : Option Addr) (n c : Nat) (l : List FV) (en : n = l.length) (w : World) (hn : n ≤ maxLen)
    (hE : ∀ f ∈ l, ∀ w', Below w.heap.size w w' → Calls Tryd.prog 49 #[.string f.1, .string nm] w' fun e w'' => e = .returned (.bool (E f.1)) ∧ Below w'.heap.size w' w'') (hr : FRow w p l) :
    Calls Tryd.prog 40 #[.slice p n c, .string nm] w fun e w' => e = .returned (.string (getE E l)) ∧ Below w.heap.size w w' := by
  by_cases h0 : l = []
  · subst h0
    obtain rfl : n = 0 := en
    clear hE hr hn
    go_enter Tryd.func40, Tryd.ntmps40
    go_wp2
    refine wp_loop_rounds 1 ?_
    rw [rounds_succ]
    go_wp2
    go_ret
    exact ⟨rfl, Below.refl _ _⟩
  · obtain ⟨b, o, rfl, hc⟩ := hr h0
    rw [← en] at hc
    exact hget_some E nm b o n c l en w (by rw [en]; exact List.length_pos_iff.2 h0) hn hE hc

/-- strings.EqualFold of ASCII texts. -/
theorem fold_ascii (s t : ByteArray) (hs : s.size ≤ 1000000) (has : ∀ c ∈ s.data.toList, c.toNat < 128) (hat : ∀ c ∈ t.data.toList, c.toNat < 128) (w : World) :
    Calls Tryd.prog 49 #[.string s, .string t] w fun e w' => e = .returned (.bool (Lib.equalFold s.data.toList t.data.toList)) ∧ Below w.heap.size w w' := by
  refine (Tryd.strings_EqualFold s t w (by omega) (fun j b hb => has b (List.mem_of_getElem? hb)) (fun j b hb => hat b (List.mem_of_getElem? hb))).mono ?_
  rintro e w' ⟨rfl, rfl⟩
  exact ⟨rfl, Below.refl _ _⟩
end Go.Proofs.YtnmmlbgadibimaaDoor

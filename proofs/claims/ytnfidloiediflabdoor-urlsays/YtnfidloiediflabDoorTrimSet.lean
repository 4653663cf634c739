/- strings.Trim and strings.TrimRight at a set of two or more ASCII bytes: what stands without such bytes at its ends; nothing that was there is changed. -/
import Derived.Test.YtnfidloiediflabDoorASet
import Derived.Test.YtnfidloiediflabDoorPlainD
namespace Go.Proofs.YtnfidloiediflabDoor
open Go.RowKit

set_option maxHeartbeats 1000000 in
theorem right_set (p : UInt8 → Bool) (g : Nat) (s : ByteArray) (w : World) (hs : s.size ≤ 1000000000) (hg : ∀ c : UInt8, w.cell? ⟨g, c.toNat, none⟩ = some (.bool (p c))) :
    Calls Tryd.prog 111 #[.string s, .pointer (some ⟨g, 0, none⟩)] w fun e w' => e = .returned (.string ⟨(dropEnd p s.data.toList).toArray⟩) ∧ w' = w := by
  have HG : Hid (∀ c : UInt8, w.cell? ⟨g, c.toNat, none⟩ = some (.bool (p c))) := hg
  clear hg
  go_enter Tryd.func111, Tryd.ntmps111
  go_wp2
  go_loopw [0] (fun v wr => ∃ t : ByteArray, v = .string t ∧ t.size ≤ s.size ∧ wr = w ∧ Hid (dropEnd p t.data.toList = dropEnd p s.data.toList)) (fun v _ => strLen v)
  case atStart => exact ⟨s, rfl, Nat.le_refl _, rfl, rfl⟩
  case round =>
    obtain ⟨t, rfl, hts, rfl, HT⟩ := hrel
    rcases Nat.eq_zero_or_pos t.size with h0 | h0
    · go_wp2
      go_ret
      have e : t.data.toList = [] := List.length_eq_zero_iff.1 (by rw [← Lib.size_eq]; exact h0)
      exact ⟨congrArg Ending.returned (strt_eq (by rw [← HT.out, e]; rfl)), rfl⟩
    · obtain ⟨n, hn⟩ : ∃ n, t.size = n + 1 := ⟨t.size - 1, by omega⟩
      obtain ⟨c, t8, h1, h2, h3, h4⟩ := ba_tail t n hn
      have hcell := HG.out c
      cases hb : p c
      · have HE : Hid (dropEnd p t.data.toList = t.data.toList) := by unfold Hid; rw [h4]; exact dropEnd_no p _ _ hb
        rw [hb] at hcell
        clear h4 hb
        go_wp2_with (go_at_call 103; refine (in_set g c _ rfl false _ hcell).mono ?_; rintro e w' ⟨rfl, hw'⟩; have hw'' := hw'.symm; subst hw'')
        go_ret
        exact ⟨congrArg Ending.returned (strt_eq (by rw [← HT.out, HE.out])), rfl⟩
      · have HE : Hid (dropEnd p t8.data.toList = dropEnd p t.data.toList) := by unfold Hid; rw [h4]; exact (dropEnd_yes p _ _ hb).symm
        rw [hb] at hcell
        clear h4 hb
        go_wp2_with (go_at_call 103; refine (in_set g c _ rfl true _ hcell).mono ?_; rintro e w' ⟨rfl, hw'⟩; have hw'' := hw'.symm; subst hw'')
        go_roundw
        case rel => exact ⟨t8, rfl, by omega, trivial, HE.out.trans HT.out⟩
        case measure => simp [strLen]; omega

set_option maxHeartbeats 1000000 in
theorem left_set (p : UInt8 → Bool) (g : Nat) (s : ByteArray) (w : World) (hg : ∀ c : UInt8, w.cell? ⟨g, c.toNat, none⟩ = some (.bool (p c))) :
    Calls Tryd.prog 110 #[.string s, .pointer (some ⟨g, 0, none⟩)] w fun e w' => e = .returned (.string ⟨(s.data.toList.dropWhile p).toArray⟩) ∧ w' = w := by
  have HG : Hid (∀ c : UInt8, w.cell? ⟨g, c.toNat, none⟩ = some (.bool (p c))) := hg
  clear hg
  go_enter Tryd.func110, Tryd.ntmps110
  go_wp2
  go_loopw [0] (fun v wr => ∃ t : ByteArray, v = .string t ∧ t.size ≤ s.size ∧ wr = w ∧ Hid (t.data.toList.dropWhile p = s.data.toList.dropWhile p)) (fun v _ => strLen v)
  case atStart => exact ⟨s, rfl, Nat.le_refl _, rfl, rfl⟩
  case round =>
    obtain ⟨t, rfl, hts, rfl, HT⟩ := hrel
    rcases Nat.eq_zero_or_pos t.size with h0 | h0
    · go_wp2
      go_ret
      have e : t.data.toList = [] := List.length_eq_zero_iff.1 (by rw [← Lib.size_eq]; exact h0)
      exact ⟨congrArg Ending.returned (strt_eq (by rw [← HT.out, e]; rfl)), rfl⟩
    · obtain ⟨n, hn⟩ : ∃ n, t.size = n + 1 := ⟨t.size - 1, by omega⟩
      obtain ⟨c, t8, h1, h2, h3, h4⟩ := ba_head t n hn
      have hcell := HG.out c
      cases hb : p c
      · have HE : Hid (t.data.toList.dropWhile p = t.data.toList) := by unfold Hid; rw [h4, List.dropWhile_cons, if_neg (by simp [hb])]
        rw [hb] at hcell
        clear h4 hb
        go_wp2_with (go_at_call 103; refine (in_set g c _ rfl false _ hcell).mono ?_; rintro e w' ⟨rfl, hw'⟩; have hw'' := hw'.symm; subst hw'')
        go_ret
        exact ⟨congrArg Ending.returned (strt_eq (by rw [← HT.out, HE.out])), rfl⟩
      · have HE : Hid (t8.data.toList.dropWhile p = t.data.toList.dropWhile p) := by unfold Hid; rw [h4, List.dropWhile_cons, if_pos hb]
        rw [hb] at hcell
        clear h4 hb
        go_wp2_with (go_at_call 103; refine (in_set g c _ rfl true _ hcell).mono ?_; rintro e w' ⟨rfl, hw'⟩; have hw'' := hw'.symm; subst hw'')
        go_roundw
        case rel => exact ⟨t8, rfl, by omega, trivial, HE.out.trans HT.out⟩
        case measure => simp [strLen]; omega

set_option maxHeartbeats 2000000 in
set_option maxRecDepth 100000 in
theorem trim_set (cs : ByteArray) (s : ByteArray) (w : World) (hs : s.size ≤ 1000000000) (hc2 : 2 ≤ cs.size) (hcm : cs.size ≤ 1000) (hasc : ∀ (j : Nat) (b : UInt8), cs.data.toList[j]? = some b → b.toNat < 128) :
    Calls Tryd.prog 79 #[.string s, .string cs] w fun e w' => e = .returned (.string ⟨(trimBy cs.data.toList.contains s.data.toList).toArray⟩) ∧ Below w.heap.size w w' := by
  have hcne : cs.toList.isEmpty = false := by
    rw [ByteArray.toList_eq]
    cases h : cs.data.toList with
    | nil => have := congrArg List.length h; rw [← Lib.size_eq] at this; rw [List.length_nil] at this; omega
    | cons a b => rfl
  rcases Nat.eq_zero_or_pos s.size with h0 | h0
  · have e : s.data.toList = [] := List.length_eq_zero_iff.1 (by rw [← Lib.size_eq]; exact h0)
    obtain rfl : s = ⟨#[]⟩ := ByteArray.ext (Array.toList_inj.1 e)
    clear e h0 hs
    go_enter Tryd.func79, Tryd.ntmps79
    go_wp2
    go_ret
    exact ⟨rfl, Below.refl _ _⟩
  · have hne : s.toList.isEmpty = false := by
      rw [ByteArray.toList_eq]
      cases h : s.data.toList with
      | nil => have := congrArg List.length h; rw [← Lib.size_eq] at this; rw [List.length_nil] at this; omega
      | cons a b => rfl
    have hn1 : ((cs.size : Int) == 1) = false := by rw [beq_eq_false_iff_ne]; omega
    have HM := Tryd.strings_makeASCIISet zero256 cs w (by omega) hasc
    have HS1 : Hid ((Lib.setCells cs.data.toList).size = 256) := Lib.setCells_size _
    have HS2 : Hid (∀ c : UInt8, (Lib.setCells cs.data.toList)[c.toNat]? = some (.bool (cs.data.toList.contains c))) := fun c => Lib.setCells_at _ c
    have HS3 : Hid ((Lib.setCells cs.data.toList).all (·.oneCell') = true) := Lib.setCells_one _
    generalize Lib.setCells cs.data.toList = SA at *
    have HMM : Hid (Calls Tryd.prog 102 #[.string cs] w _) := HM
    clear HM hasc
    go_enter Tryd.func79, Tryd.ntmps79
    go_wp2_with fail
    refine HMM.out.mono ?_
    rintro e w1 ⟨rfl, rfl⟩
    clear HMM
    have hA1 := HS1.out
    have hsc : (storeCells ⟨w.heap.size + 1, 0, none⟩ SA.toList 0).run Tryd.prog ((w.alloc (.cells SA 115)).alloc (.cells Tryd.zeroCells115 115)) = .ok () ((w.alloc (.cells SA 115)).alloc (.cells SA 115)) := by
      have := run_storeCells_new (P := Tryd.prog) (w.alloc (.cells SA 115)) 115 Tryd.zeroCells115 SA (by rw [hA1]; kernel_rfl) (by rw [hA1]; kernel_rfl) HS3.out
      simpa using this
    have HC : Hid (∀ c : UInt8, ((w.alloc (.cells SA 115)).alloc (.cells SA 115)).cell? ⟨w.heap.size + 1, c.toNat, none⟩ = some (.bool (cs.data.toList.contains c))) := fun c => by
      rw [World.cell?_alloc_at _ _ _ _ (by simp)]; exact HS2.out c
    have hb2 : Below w.heap.size w ((w.alloc (.cells SA 115)).alloc (.cells SA 115)) := ((Below.refl _ _).alloc (Nat.le_refl _) _).alloc (by simp) _
    go_wp2_with fail
    clear hsc
    generalize ((w.alloc (.cells SA 115)).alloc (.cells SA 115)) = w2 at *
    refine (right_set cs.data.toList.contains (w.heap.size + 1) s w2 hs HC.out).mono ?_
    rintro e w3 ⟨rfl, hw3⟩
    have hw3' := hw3.symm
    subst hw3'
    go_wp2_with fail
    refine (left_set cs.data.toList.contains (w.heap.size + 1) ⟨(dropEnd cs.data.toList.contains s.data.toList).toArray⟩ w2 HC.out).mono ?_
    rintro e w3 ⟨rfl, hw3⟩
    have hw3' := hw3.symm
    subst hw3'
    clear HC
    go_wp2
    go_ret
    exact ⟨rfl, hb2⟩
end Go.Proofs.YtnfidloiediflabDoor

/- url.small: what the plain function says; nothing that was there is changed. Condition: the text is not too long. -/
import Derived.Test.YtnfidloiediflabDoorUEvery
import Derived.Test.YtnfidloiediflabDoorConvB
import Derived.Lib.ConvBytes
namespace Go.Proofs.YtnfidloiediflabDoor
open Go.RowKit

/-- The first k letters small. -/
def smk (k : Nat) (l : List UInt8) : List UInt8 := smallU (l.take k) ++ l.drop k
theorem smk_length (k : Nat) (l : List UInt8) : (smk k l).length = l.length := by
  unfold smk smallU
  rw [List.length_append, List.length_map, List.length_take, List.length_drop]
  omega
theorem smk_all (l : List UInt8) : smk l.length l = smallU l := by
  unfold smk
  rw [List.take_length, List.drop_length, List.append_nil]
theorem smk_get (k : Nat) (l : List UInt8) (h : k < l.length) : (smk k l).getD k 0 = l.getD k 0 := by
  unfold smk smallU
  rw [List.getD_eq_getElem?_getD, List.getElem?_append_right (by simp; omega), List.length_map, List.length_take, Nat.min_eq_left (by omega), Nat.sub_self, List.getElem?_drop, List.getD_eq_getElem?_getD]
  rfl
theorem smk_succ (k : Nat) (l : List UInt8) (h : k < l.length) : smk (k + 1) l = (smk k l).set k (lowU (l.getD k 0)) := by
  have hl : (smallU (l.take k)).length = k := by unfold smallU; rw [List.length_map, List.length_take]; omega
  unfold smk
  rw [List.set_append_right _ _ (by omega), hl, Nat.sub_self, List.drop_eq_getElem_cons h, List.set_cons_zero]
  rw [List.take_add_one, List.getElem?_eq_getElem h]
  unfold smallU
  rw [List.map_append, List.append_assoc]
  simp [List.getD_eq_getElem?_getD, List.getElem?_eq_getElem h]
theorem set_getD (l : List UInt8) (k i : Nat) (v : UInt8) (h : k < l.length) : (l.set k v).getD i 0 = if i = k then v else l.getD i 0 := by
  rw [List.getD_eq_getElem?_getD, List.getElem?_set]
  by_cases hik : k = i
  · subst hik; simp [h]
  · rw [if_neg hik, if_neg (Ne.symm hik), List.getD_eq_getElem?_getD]
theorem set_self (l : List UInt8) (k : Nat) (h : k < l.length) : l.set k (l.getD k 0) = l := by
  rw [List.getD_eq_getElem?_getD, List.getElem?_eq_getElem h]
  simp

set_option maxHeartbeats 4000000 in
set_option maxRecDepth 100000 in
/-- url.small. -/
theorem usm_any (s : ByteArray) (w : World) (hs : s.size ≤ 1000000) :
    Calls Tryd.prog 34 #[.string s] w fun e w' => e = .returned (.string ⟨(smallU s.data.toList).toArray⟩) ∧ Below w.heap.size w w' := by
  have hcv : (convert 9 42 (.string s)).run Tryd.prog w = .ok (.slice (some ⟨w.heap.size, 0, none⟩) s.size (grownCap w s.size 0 5)) (Lib.bytesWorld w 5 s) := Lib.run_convert_string_bytes w _ _ _ s Tryd.underlying9 Tryd.underlying42 Tryd.underlying5
  have hB : Below w.heap.size w (Lib.bytesWorld w 5 s) := ⟨rfl, rfl, rfl, by rw [Lib.bytesWorld_size]; omega, fun k hk => Lib.bytesWorld_at_old w _ s k hk⟩
  have HC0 : Hid (∀ i, i < s.size → (Lib.bytesWorld w 5 s).cell? ⟨w.heap.size, i, none⟩ = some (.int .u8 ((s.data.toList.getD i 0).toNat : Int))) := fun i hi => Lib.bytesWorld_cell w _ s i hi
  have HF0 : Hid (∀ i, i < s.size → (Lib.bytesWorld w 5 s).frozen? ⟨w.heap.size, i, none⟩ = false) := fun i hi => by
    unfold World.frozen?
    simp only [Lib.bytesWorld_at_new]
    have : s.size ≤ (Lib.bytesCells w 5 s).size := by unfold Lib.bytesCells; simp
    rw [Bool.and_eq_false_iff]
    left
    rw [decide_eq_false_iff_not]
    omega
  generalize grownCap w s.size 0 5 = CAP at *
  generalize Lib.bytesWorld w 5 s = w1 at *
  have hle : Hid (s.size = s.data.toList.length) := Lib.size_eq s
  go_enter Tryd.func34, Tryd.ntmps34
  go_wp2
  go_loopw [10] (fun iv wr => ∃ k : Nat, k ≤ s.size ∧ iv = .int .i64 k ∧ Below w.heap.size w wr ∧ Hid (∀ i, i < s.size → wr.cell? ⟨w.heap.size, i, none⟩ = some (.int .u8 (((smk k s.data.toList).getD i 0).toNat : Int))) ∧ Hid (∀ i, i < s.size → wr.frozen? ⟨w.heap.size, i, none⟩ = false)) (fun iv _ => s.size - (intOf iv).toNat)
  case atStart => exact ⟨0, Nat.zero_le _, rfl, hB, HC0, HF0⟩
  case round =>
    obtain ⟨k, hk, rfl, hbel, HC, HF⟩ := hrel
    clear HC0 HF0
    by_cases hlt : k < s.size
    · have hll : k < s.data.toList.length := by rw [← hle.out]; exact hlt
      have hck := HC.out k hlt
      rw [smk_get k _ hll] at hck
      have hfk := HF.out k hlt
      obtain ⟨c, hc⟩ : ∃ c, s.data.toList.getD k 0 = c := ⟨_, rfl⟩
      rw [hc] at hck
      have CI : Hid (Calls Tryd.prog 71 #[.int .u8 (c.toNat : Int)] wr fun e w' => e = .returned (.bool (isUpB c)) ∧ w' = wr) := ularge_any c wr
      cases hu : isUpB c with
      | false =>
        rw [hu] at CI
        have HC2 : Hid (∀ i, i < s.size → wr.cell? ⟨w.heap.size, i, none⟩ = some (.int .u8 (((smk (k + 1) s.data.toList).getD i 0).toNat : Int))) := fun i hi => by
          rw [smk_succ k _ hll, hc, show lowU c = c from by unfold lowU; rw [hu]; rfl, ← hc, ← smk_get k _ hll, set_self _ k (by rw [smk_length]; exact hll)]
          exact HC.out i hi
        clear HC hc hu
        go_wp2_with fail
        refine CI.out.mono ?_
        rintro e w' ⟨rfl, hw'⟩
        have hw'' := hw'.symm
        subst hw''
        clear CI
        go_wp2
        go_roundw
        case rel => exact ⟨k + 1, by omega, by go_num, hbel, HC2, HF⟩
        case measure => simp [intOf]; omega
      | true =>
        rw [hu] at CI
        have hub : 65 ≤ c.toNat ∧ c.toNat ≤ 90 := by unfold isUpB at hu; simpa using hu
        have h65 : (65 : Int) ≤ (c.toNat : Int) := by omega
        have h90 : (c.toNat : Int) ≤ 90 := by omega
        have hval : (c.toNat : Int) - 65 + 97 = ((lowU c).toNat : Int) := by
          have : (lowU c).toNat = c.toNat + 32 := by
            unfold lowU
            rw [if_pos hu, UInt8.toNat_add]
            show (c.toNat + 32) % 256 = _
            omega
          omega
        have HC2 : Hid (∀ i, i < s.size → (wr.setCell ⟨w.heap.size, k, none⟩ (.int .u8 ((lowU c).toNat : Int))).cell? ⟨w.heap.size, i, none⟩ = some (.int .u8 (((smk (k + 1) s.data.toList).getD i 0).toNat : Int))) := fun i hi => by
          rw [smk_succ k _ hll, hc, set_getD _ _ _ _ (by rw [smk_length]; exact hll)]
          by_cases hik : i = k
          · subst hik
            rw [if_pos rfl]
            exact World.cell?_setCell_same _ _ _ hck
          · rw [if_neg hik, World.cell?_setCell_other _ _ _ _ (fun e => hik (by injection e with _ e _; exact e.symm))]
            exact HC.out i hi
        have HF2 : Hid (∀ i, i < s.size → (wr.setCell ⟨w.heap.size, k, none⟩ (.int .u8 ((lowU c).toNat : Int))).frozen? ⟨w.heap.size, i, none⟩ = false) := fun i hi => by
          rw [World.frozen?_setCell]; exact HF.out i hi
        have hb2 : Below w.heap.size w (wr.setCell ⟨w.heap.size, k, none⟩ (.int .u8 ((lowU c).toNat : Int))) := hbel.setCell (Nat.le_refl _) _
        clear HC HF hc hu hub
        go_wp2_with fail
        refine CI.out.mono ?_
        rintro e w' ⟨rfl, hw'⟩
        have hw'' := hw'.symm
        subst hw''
        clear CI
        go_wp2
        try simp only [hval]
        go_roundw
        case rel => exact ⟨k + 1, by omega, by go_num, hb2, HC2, HF2⟩
        case measure => simp [intOf]; omega
    · obtain rfl : k = s.size := by omega
      have hr : BRow wr (some ⟨w.heap.size, 0, none⟩) (smallU s.data.toList) := fun _ => ⟨w.heap.size, 0, rfl, fun i hi => by
        have hi' : i < s.size := by rw [hle.out]; unfold smallU at hi; rw [List.length_map] at hi; exact hi
        have := HC.out i hi'
        rw [hle.out, smk_all] at this
        rw [Nat.zero_add]
        exact this⟩
      have hcv2 := conv_bytes wr (some ⟨w.heap.size, 0, none⟩) s.size CAP (smallU s.data.toList) (by rw [hle.out]; unfold smallU; rw [List.length_map]) hr (fun e => by cases e)
      clear HC HF hr
      go_wp2
      go_ret
      exact ⟨rfl, hbel⟩
end Go.Proofs.YtnfidloiediflabDoor

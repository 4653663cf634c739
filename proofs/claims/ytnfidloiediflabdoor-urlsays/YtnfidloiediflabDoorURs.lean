/- The reference's isScheme and small: what the plain functions say; nothing that was there is changed. Condition: the text is not too long. -/
import Derived.Test.YtnfidloiediflabDoorUCheck
import Derived.Test.YtnfidloiediflabDoorUSmall
import Derived.Test.YtnfidloiediflabDoorTrimSet
import Derived.Test.YtnfidloiediflabDoorBetw
namespace Go.Proofs.YtnfidloiediflabDoor
open Go.RowKit

def schSet : List UInt8 := [97, 98, 99, 100, 101, 102, 103, 104, 105, 106, 107, 108, 109, 110, 111, 112, 113, 114, 115, 116, 117, 118, 119, 120, 121, 122, 48, 49, 50, 51, 52, 53, 54, 55, 56, 57, 43, 45, 46]
theorem schSet_is (c : UInt8) : schSet.contains c = schB c := by
  have : ∀ n : Fin 256, schSet.contains (UInt8.ofNat n.val) = schB (UInt8.ofNat n.val) := by decide +kernel
  have h := this ⟨c.toNat, c.toNat_lt⟩
  simp only [UInt8.ofNat_toNat] at h
  exact h
theorem trim_all (p : UInt8 → Bool) (l : List UInt8) : (trimBy p l).isEmpty = l.all p := by
  unfold trimBy dropEnd
  rw [Bool.eq_iff_iff, List.isEmpty_iff, List.all_eq_true]
  constructor
  · intro h c hc
    have h1 : ∀ (m : List UInt8), m.dropWhile p = [] → ∀ c ∈ m, p c = true := fun m hm c hc => by
      induction m with
      | nil => cases hc
      | cons a m ih =>
        rw [List.dropWhile_cons] at hm
        split at hm
        · rename_i ha
          rcases List.mem_cons.1 hc with rfl | hc
          · exact ha
          · exact ih hm hc
        · cases hm
    have h2 := h1 _ h
    rcases hd : l.reverse.dropWhile p with _ | ⟨a, m⟩
    · exact h1 _ hd c (by simpa using hc)
    · have h3 : p a = false := by
        have : ∀ (m : List UInt8) (a : UInt8) (t : List UInt8), m.dropWhile p = a :: t → p a = false := fun m => by
          induction m with
          | nil => intro a t h; cases h
          | cons b m ih =>
            intro a t h
            rw [List.dropWhile_cons] at h
            split at h
            · exact ih a t h
            · rename_i hb; cases h; simpa using hb
        exact this _ _ _ hd
      have := h2 a (by rw [hd]; simp)
      rw [h3] at this
      cases this
  · intro h
    have h1 : ∀ (m : List UInt8), (∀ c ∈ m, p c = true) → m.dropWhile p = [] := fun m hm => by
      induction m with
      | nil => rfl
      | cons a m ih => rw [List.dropWhile_cons, if_pos (hm a (by simp)), ih (fun c hc => hm c (by simp [hc]))]
    rw [h1 l.reverse (fun c hc => h c (by simpa using hc))]
    rfl

set_option maxHeartbeats 1000000 in
/-- The reference's isScheme. -/
theorem rscheme_any (s : ByteArray) (w : World) (hs : s.size ≤ 1000000) :
    Calls Tryd.prog 44 #[.string s] w fun e w' => e = .returned (.bool (s.data.toList.isEmpty || schemeS s.data.toList)) ∧ Below w.heap.size w w' := by
  by_cases hne : s.data.toList = []
  · obtain rfl := bempty_yes s hne
    go_enter Tryd.func44, Tryd.ntmps44
    go_wp2
    go_ret
    exact ⟨rfl, Below.refl _ _⟩
  · have he := bempty_no s hne
    have h0 := pos_no s hne
    have h0i : (0 : Int) < (s.size : Int) := by omega
    have HS : Hid ((s.data.toList.isEmpty || schemeS s.data.toList) = ((decide (97 ≤ s[0].toNat) && decide (s[0].toNat ≤ 122)) && s.data.toList.all schB)) := by
      unfold Hid
      rw [isE_no s hne, Bool.false_or]
      have e := dropB s 0 h0
      rw [List.drop_zero] at e
      unfold schemeS
      cases hl : s.data.toList with
      | nil => rw [hl] at e; cases e
      | cons a l => rw [hl] at e; cases e; rfl
    have CT := trim_set ⟨schSet.toArray⟩ s w (by omega) (by decide) (by decide) (fun j b hb => by
      have : ∀ b ∈ schSet, b.toNat < 128 := by decide
      exact this b (List.mem_of_getElem? hb))
    obtain ⟨TT, hTT⟩ : ∃ T : ByteArray, T = ⟨(trimBy (ByteArray.mk schSet.toArray).data.toList.contains s.data.toList).toArray⟩ := ⟨_, rfl⟩
    rw [← hTT] at CT
    have hTe : TT.data.toList.isEmpty = s.data.toList.all schB := by
      rw [hTT]
      show (trimBy schSet.contains s.data.toList).isEmpty = _
      rw [show schSet.contains = schB from funext schSet_is, trim_all]
    have HC : Hid (Calls Tryd.prog 79 #[.string s, .string ⟨#[97, 98, 99, 100, 101, 102, 103, 104, 105, 106, 107, 108, 109, 110, 111, 112, 113, 114, 115, 116, 117, 118, 119, 120, 121, 122, 48, 49, 50, 51, 52, 53, 54, 55, 56, 57, 43, 45, 46]⟩] w fun e w' => e = .returned (.string TT) ∧ Below w.heap.size w w') := CT
    clear CT hTT
    cases ha : s.data.toList.all schB with
    | false =>
      have HN : Hid ((s.data.toList.isEmpty || schemeS s.data.toList) = false) := by unfold Hid; rw [HS.out, ha, Bool.and_false]
      rw [ha] at hTe
      have hT0 : TT.toList.isEmpty = false := by rw [ByteArray.toList_eq]; exact hTe
      clear HS ha hTe hne
      go_enter Tryd.func44, Tryd.ntmps44
      go_wp2_with fail
      refine HC.out.mono ?_
      rintro e w1 ⟨rfl, hb1⟩
      clear HC
      go_wp2
      go_ret
      exact ⟨by rw [HN.out]; rfl, hb1⟩
    | true =>
      rw [ha] at hTe
      have hT0 := bempty_yes TT (by simpa using hTe)
      subst hT0
      have h1d : decide ((97 : Int) ≤ (s[0].toNat : Int)) = decide (97 ≤ s[0].toNat) := decide_eq_decide.2 (by omega)
      have h2d : decide ((s[0].toNat : Int) ≤ 122) = decide (s[0].toNat ≤ 122) := decide_eq_decide.2 (by omega)
      have HN : Hid ((s.data.toList.isEmpty || schemeS s.data.toList) = (decide ((97 : Int) ≤ (s[0].toNat : Int)) && decide ((s[0].toNat : Int) ≤ 122))) := by unfold Hid; rw [HS.out, ha, Bool.and_true, h1d, h2d]
      clear HS ha hTe hne h1d h2d
      by_cases h1 : (97 : Int) ≤ (s[0].toNat : Int)
      · by_cases h2 : (s[0].toNat : Int) ≤ 122
        · go_enter Tryd.func44, Tryd.ntmps44
          go_wp2_with fail
          refine HC.out.mono ?_
          rintro e w1 ⟨rfl, hb1⟩
          clear HC
          go_wp2
          go_ret
          exact ⟨by rw [HN.out]; simp [h1, h2], hb1⟩
        · have h2' : decide ((s[0].toNat : Int) ≤ 122) = false := decide_eq_false h2
          go_enter Tryd.func44, Tryd.ntmps44
          go_wp2_with fail
          refine HC.out.mono ?_
          rintro e w1 ⟨rfl, hb1⟩
          clear HC
          go_wp2
          go_ret
          exact ⟨by rw [HN.out]; simp [h2], hb1⟩
      · have h1' : decide ((97 : Int) ≤ (s[0].toNat : Int)) = false := decide_eq_false h1
        go_enter Tryd.func44, Tryd.ntmps44
        go_wp2_with fail
        refine HC.out.mono ?_
        rintro e w1 ⟨rfl, hb1⟩
        clear HC
        go_wp2
        go_ret
        exact ⟨by rw [HN.out, h1']; rfl, hb1⟩

def upSet : List UInt8 := [65, 66, 67, 68, 69, 70, 71, 72, 73, 74, 75, 76, 77, 78, 79, 80, 81, 82, 83, 84, 85, 86, 87, 88, 89, 90]
theorem upSet_is (c : UInt8) : upSet.contains c = isUpB c := by
  have : ∀ n : Fin 256, upSet.contains (UInt8.ofNat n.val) = isUpB (UInt8.ofNat n.val) := by decide +kernel
  have h := this ⟨c.toNat, c.toNat_lt⟩
  simp only [UInt8.ofNat_toNat] at h
  exact h
set_option maxHeartbeats 4000000 in
set_option maxRecDepth 100000 in
/-- The reference's small. -/
theorem rsm_any (s : ByteArray) (w : World) (hs : s.size ≤ 1000000) :
    Calls Tryd.prog 43 #[.string s] w fun e w' => e = .returned (.string ⟨(smallU s.data.toList).toArray⟩) ∧ Below w.heap.size w w' := by
  have hcv : (convert 9 42 (.string s)).run Tryd.prog w = .ok (.slice (some ⟨w.heap.size, 0, none⟩) s.size (grownCap w s.size 0 5)) (Lib.bytesWorld w 5 s) := Lib.run_convert_string_bytes w _ _ _ s Tryd.underlying9 Tryd.underlying42 Tryd.underlying5
  have hB : Below w.heap.size w (Lib.bytesWorld w 5 s) := ⟨rfl, rfl, rfl, by rw [Lib.bytesWorld_size]; omega, fun k hk => Lib.bytesWorld_at_old w _ s k hk⟩
  have HC0 : Hid (∀ i, i < s.size → (Lib.bytesWorld w 5 s).cell? ⟨w.heap.size, i, none⟩ = some (.int .u8 ((s.data.toList.getD i 0).toNat : Int))) := fun i hi => Lib.bytesWorld_cell w _ s i hi
  have HF0 : Hid (∀ i, i < s.size → (Lib.bytesWorld w 5 s).frozen? ⟨w.heap.size, i, none⟩ = false) := fun i hi => by
    unfold World.frozen?
    simp only [Lib.bytesWorld_at_new]
    have : s.size ≤ (Lib.bytesCells w 5 s).size := by unfold Lib.bytesCells; simp
    rw [Bool.and_eq_false_iff]
    left
    rw [decide_eq_false_iff_not]
    omega
  generalize grownCap w s.size 0 5 = CAP at *
  generalize Lib.bytesWorld w 5 s = w1 at *
  have hle : Hid (s.size = s.data.toList.length) := Lib.size_eq s
  go_enter Tryd.func43, Tryd.ntmps43
  go_wp2
  go_loopw [9] (fun iv wr => ∃ k : Nat, k ≤ s.size ∧ iv = .int .i64 k ∧ Below w.heap.size w wr ∧ Hid (∀ i, i < s.size → wr.cell? ⟨w.heap.size, i, none⟩ = some (.int .u8 (((smk k s.data.toList).getD i 0).toNat : Int))) ∧ Hid (∀ i, i < s.size → wr.frozen? ⟨w.heap.size, i, none⟩ = false)) (fun iv _ => s.size - (intOf iv).toNat)
  case atStart => exact ⟨0, Nat.zero_le _, rfl, hB, HC0, HF0⟩
  case round =>
    obtain ⟨k, hk, rfl, hbel, HC, HF⟩ := hrel
    clear HC0 HF0
    by_cases hlt : k < s.size
    · have hll : k < s.data.toList.length := by rw [← hle.out]; exact hlt
      have hck := HC.out k hlt
      rw [smk_get k _ hll] at hck
      have hfk := HF.out k hlt
      obtain ⟨c, hc⟩ : ∃ c, s.data.toList.getD k 0 = c := ⟨_, rfl⟩
      rw [hc] at hck
      have CI : Hid (Calls Tryd.prog 37 #[.string ⟨#[65, 66, 67, 68, 69, 70, 71, 72, 73, 74, 75, 76, 77, 78, 79, 80, 81, 82, 83, 84, 85, 86, 87, 88, 89, 90]⟩, .int .u8 (c.toNat : Int)] wr fun e w' => ∃ i : Int, e = .returned (.int .i64 i) ∧ decide (0 ≤ i) = isUpB c ∧ w' = wr) := by
        have := ix_any ⟨#[65, 66, 67, 68, 69, 70, 71, 72, 73, 74, 75, 76, 77, 78, 79, 80, 81, 82, 83, 84, 85, 86, 87, 88, 89, 90]⟩ upSet rfl c _ rfl wr
        rw [upSet_is] at this
        exact this
      cases hu : isUpB c with
      | false =>
        rw [hu] at CI
        have HC2 : Hid (∀ i, i < s.size → wr.cell? ⟨w.heap.size, i, none⟩ = some (.int .u8 (((smk (k + 1) s.data.toList).getD i 0).toNat : Int))) := fun i hi => by
          rw [smk_succ k _ hll, hc, show lowU c = c from by unfold lowU; rw [hu]; rfl, ← hc, ← smk_get k _ hll, set_self _ k (by rw [smk_length]; exact hll)]
          exact HC.out i hi
        clear HC hc hu
        go_wp2_with fail
        refine CI.out.mono ?_
        rintro e w' ⟨i9, rfl, hi9, hw'⟩
        have hw'' := hw'.symm
        subst hw''
        clear CI
        go_wp2
        go_roundw
        case rel => exact ⟨k + 1, by omega, by go_num, hbel, HC2, HF⟩
        case measure => simp [intOf]; omega
      | true =>
        rw [hu] at CI
        have hub : 65 ≤ c.toNat ∧ c.toNat ≤ 90 := by unfold isUpB at hu; simpa using hu
        have h65 : (65 : Int) ≤ (c.toNat : Int) := by omega
        have h90 : (c.toNat : Int) ≤ 90 := by omega
        have hval : (c.toNat : Int) + 32 = ((lowU c).toNat : Int) := by
          have : (lowU c).toNat = c.toNat + 32 := by
            unfold lowU
            rw [if_pos hu, UInt8.toNat_add]
            show (c.toNat + 32) % 256 = _
            omega
          omega
        have HC2 : Hid (∀ i, i < s.size → (wr.setCell ⟨w.heap.size, k, none⟩ (.int .u8 ((lowU c).toNat : Int))).cell? ⟨w.heap.size, i, none⟩ = some (.int .u8 (((smk (k + 1) s.data.toList).getD i 0).toNat : Int))) := fun i hi => by
          rw [smk_succ k _ hll, hc, set_getD _ _ _ _ (by rw [smk_length]; exact hll)]
          by_cases hik : i = k
          · subst hik
            rw [if_pos rfl]
            exact World.cell?_setCell_same _ _ _ hck
          · rw [if_neg hik, World.cell?_setCell_other _ _ _ _ (fun e => hik (by injection e with _ e _; exact e.symm))]
            exact HC.out i hi
        have HF2 : Hid (∀ i, i < s.size → (wr.setCell ⟨w.heap.size, k, none⟩ (.int .u8 ((lowU c).toNat : Int))).frozen? ⟨w.heap.size, i, none⟩ = false) := fun i hi => by
          rw [World.frozen?_setCell]; exact HF.out i hi
        have hb2 : Below w.heap.size w (wr.setCell ⟨w.heap.size, k, none⟩ (.int .u8 ((lowU c).toNat : Int))) := hbel.setCell (Nat.le_refl _) _
        clear HC HF hc hu hub
        go_wp2_with fail
        refine CI.out.mono ?_
        rintro e w' ⟨i9, rfl, hi9, hw'⟩
        have hw'' := hw'.symm
        subst hw''
        clear CI
        go_wp2
        try simp only [hval]
        go_roundw
        case rel => exact ⟨k + 1, by omega, by go_num, hb2, HC2, HF2⟩
        case measure => simp [intOf]; omega
    · obtain rfl : k = s.size := by omega
      have hr : BRow wr (some ⟨w.heap.size, 0, none⟩) (smallU s.data.toList) := fun _ => ⟨w.heap.size, 0, rfl, fun i hi => by
        have hi' : i < s.size := by rw [hle.out]; unfold smallU at hi; rw [List.length_map] at hi; exact hi
        have := HC.out i hi'
        rw [hle.out, smk_all] at this
        rw [Nat.zero_add]
        exact this⟩
      have hcv2 := conv_bytes wr (some ⟨w.heap.size, 0, none⟩) s.size CAP (smallU s.data.toList) (by rw [hle.out]; unfold smallU; rw [List.length_map]) hr (fun e => by cases e)
      clear HC HF hr
      go_wp2
      go_ret
      exact ⟨rfl, hbel⟩
end Go.Proofs.YtnfidloiediflabDoor

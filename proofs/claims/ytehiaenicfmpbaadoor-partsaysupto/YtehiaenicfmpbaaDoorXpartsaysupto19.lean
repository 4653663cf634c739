/- The reference's IsMany, IsWord, IsType: what the plain functions say; nothing that was there is changed. Conditions: the text is no longer than a text can be; the tables of unicode/utf8 lie there. -/
import Derived.Test.YtehiaenicfmpbaaDoorXpartsaysupto5
import Derived.Test.YtehiaenicfmpbaaDoorXpartsaysupto18
namespace Go.Proofs.YtehiaenicfmpbaaDoor
open Go.RowKit

theorem take_ten (l : List UInt8) : manyS l = decide (l.take 10 = multi) := by
  unfold manyS Lib.hasPrefix
  rw [Bool.eq_iff_iff, List.isPrefixOf_iff_prefix, List.prefix_iff_eq_take]
  simp only [decide_eq_true_eq]
  exact ⟨fun h => h.symm, fun h => h.symm⟩

/-- The reference's IsMany. -/
theorem rmany_any (s : ByteArray) (w : World) (hs : s.size ≤ maxLen) :
    Calls Tryd.prog 63 #[.string s] w fun e w' => e = .returned (.bool (manyS s.data.toList)) ∧ w' = w := by
  unfold maxLen at hs
  have hle := Lib.size_eq s
  by_cases h10 : 10 ≤ s.size
  · have h10' : (10 : Int) ≤ (s.size : Int) := by omega
    obtain ⟨X, hX⟩ : ∃ X, s.extract 0 10 = X := ⟨_, rfl⟩
    have hXl : X.data.toList = s.data.toList.take 10 := by rw [← hX, Lib.extract_data]; simp
    have HN : Hid (manyS s.data.toList = decide (X.data.toList = multi)) := by unfold Hid; rw [hXl]; exact take_ten _
    have e1 : (X.toList == (⟨#[109, 117, 108, 116, 105, 112, 97, 114, 116, 47]⟩ : ByteArray).toList) = decide (X.data.toList = multi) := by
      rw [ByteArray.toList_eq, ByteArray.toList_eq, Bool.eq_iff_iff, beq_iff_eq, decide_eq_true_eq]; exact Iff.rfl
    have e2 : (X.toList == [109, 117, 108, 116, 105, 112, 97, 114, 116, 47]) = decide (X.data.toList = multi) := by
      rw [ByteArray.toList_eq, Bool.eq_iff_iff, beq_iff_eq, decide_eq_true_eq]; exact Iff.rfl
    generalize decide (X.data.toList = multi) = T at *
    clear hXl hle
    go_enter Tryd.func63, Tryd.ntmps63
    go_wp2_with fail
    go_ret
    exact ⟨by rw [HN.out]; first | rfl | (rw [e1]; rfl) | (rw [e2]; rfl) | (simp [e1, e2]), rfl⟩
  · have h10' : decide ((10 : Int) ≤ (s.size : Int)) = false := by simp; omega
    have HN : Hid (manyS s.data.toList = false) := by
      unfold Hid
      rw [take_ten]
      apply decide_eq_false
      intro h
      have := congrArg List.length h
      rw [List.length_take, ← hle] at this
      simp [multi] at this
      omega
    clear hle
    go_enter Tryd.func63, Tryd.ntmps63
    go_wp2_with fail
    go_ret
    exact ⟨by rw [HN.out]; rfl, rfl⟩

/-- The reference's IsWord. -/
theorem rword_any (s : ByteArray) (w : World) (hs : s.size ≤ maxLen) :
    Calls Tryd.prog 65 #[.string s] w fun e w' => e = .returned (.bool (wordS s.data.toList)) ∧ w' = w := by
  unfold maxLen at hs
  have hle := Lib.size_eq s
  by_cases h2 : s.size ≤ 120
  · have h2' : (s.size : Int) ≤ 120 := by omega
    have HN : Hid (wordS s.data.toList = betw 33 126 [34, 60, 62] s.data.toList) := by unfold Hid wordS betw; rw [← hle]; simp [h2]; rfl
    have C : Hid (∀ w, Calls Tryd.prog 101 #[.string s, .int .u8 33, .int .u8 126, .string ⟨#[34, 60, 62]⟩] w fun e w' => e = .returned (.bool (betw 33 126 [34, 60, 62] s.data.toList)) ∧ w' = w) := fun w => between_any s ⟨#[34, 60, 62]⟩ [34, 60, 62] rfl 33 126 33 126 rfl rfl w (by omega)
    generalize betw 33 126 [34, 60, 62] s.data.toList = V at *
    clear hle
    go_enter Tryd.func65, Tryd.ntmps65
    go_wp2_with fail
    refine (C.out _).mono ?_
    rintro e w' ⟨rfl, hw'⟩
    have hw'' := hw'.symm
    subst hw''
    go_wp2_with fail
    go_ret
    exact ⟨by rw [HN.out]; rfl, rfl⟩
  · have h2' : decide ((s.size : Int) ≤ 120) = false := by simp; omega
    have HN : Hid (wordS s.data.toList = false) := by unfold Hid wordS; rw [← hle]; simp; omega
    clear hle
    go_enter Tryd.func65, Tryd.ntmps65
    go_wp2_with fail
    go_ret
    exact ⟨by rw [HN.out]; rfl, rfl⟩

theorem low_every : ((List.range 256).all fun n => decide (Lib.lowerB (UInt8.ofNat n) = UInt8.ofNat n) == !upR n) = true := by decide +kernel
theorem low_same (c : UInt8) : Lib.lowerB c = c ↔ upR c.toNat = false := by
  have h := List.all_eq_true.1 low_every c.toNat (by rw [List.mem_range]; exact UInt8.toNat_lt c)
  rw [UInt8.ofNat_toNat, beq_iff_eq] at h
  constructor
  · intro e
    rw [decide_eq_true e] at h
    simpa using h.symm
  · intro e
    rw [e] at h
    simpa using h
theorem small_same : ∀ l : List UInt8, decide (small8 l = l) = !(l.any fun c => upR c.toNat)
  | [] => rfl
  | c :: l => by
    have ih := small_same l
    have hc := low_same c
    rw [List.any_cons, Bool.eq_iff_iff]
    rw [Bool.eq_iff_iff] at ih
    have e : small8 (c :: l) = Lib.lowerB c :: small8 l := rfl
    rw [e]
    simp only [decide_eq_true_eq, List.cons.injEq, Bool.not_or, Bool.and_eq_true, Bool.not_eq_true'] at ih ⊢
    rw [ih, hc]

set_option maxHeartbeats 1000000 in
set_option maxRecDepth 100000 in
/-- The reference's IsType. -/
theorem rtype_any (s : ByteArray) (w : World) (hs : s.size ≤ maxLen) (hT : ∀ w', Below w.heap.size w w' → Lib.Utf8Tabs 4 5 w') :
    Calls Tryd.prog 61 #[.string s] w fun e w' => e = .returned (.bool (typeS s.data.toList)) ∧ Below w.heap.size w w' := by
  unfold maxLen at hs
  have C0 := fun w => Tryd.strings_Index_one s 47 w
  cases hc : cutB 47 s.data.toList with
  | none =>
    have HN : Hid (typeS s.data.toList = false) := by unfold Hid typeS; rw [hc]
    have C : Hid (∀ w, Calls Tryd.prog 96 #[.string s, .string ⟨#[47]⟩] w fun e w' => e = .returned (.int .i64 (-1)) ∧ w' = w) := fun w => by
      have := C0 w
      rwa [indexByte_where, whereB_none hc] at this
    clear hc C0 hT
    go_enter Tryd.func61, Tryd.ntmps61
    go_wp2_with fail
    refine (C.out _).mono ?_
    rintro e w' ⟨rfl, hw'⟩
    have hw'' := hw'.symm
    subst hw''
    go_wp2_with fail
    go_ret
    exact ⟨by rw [HN.out]; rfl, Below.refl _ _⟩
  | some x =>
    obtain ⟨a, r, hx, hsz⟩ := cut_parts hc
    subst hx
    obtain ⟨A, R, h1, h2, h3, h4, h5⟩ := ba_cut 47 s _ _ (cutB_some 47 _ _ _ hc).1
    have hA := ba_inj h3
    have hR := ba_inj h4
    subst hA hR
    obtain ⟨I, hI⟩ : ∃ I, I = A.data.toList.length := ⟨_, rfl⟩
    rw [← hI] at h1 h2 h5
    have C : Hid (∀ w, Calls Tryd.prog 96 #[.string s, .string ⟨#[47]⟩] w fun e w' => e = .returned (.int .i64 (I : Int)) ∧ w' = w) := fun w => by
      have := C0 w
      rw [indexByte_where, whereB_some hc] at this
      rw [hI]
      exact this
    have hI1 : (I : Int) ≤ (s.size : Int) := by omega
    have hI2 : (I : Int) + 1 ≤ (s.size : Int) := by omega
    have HT : Hid (typeS s.data.toList = (tokenS A.data.toList && tokenS R.data.toList && !s.data.toList.any (fun c => decide (65 ≤ c.toNat) && decide (c.toNat ≤ 90)))) := by unfold Hid typeS; rw [hc]
    have CA : Hid (∀ w, Calls Tryd.prog 35 #[.string A] w fun e w' => e = .returned (.bool (tokenS A.data.toList)) ∧ w' = w) := fun w => token_any A w (by unfold maxLen; omega)
    have CR : Hid (∀ w, Calls Tryd.prog 35 #[.string R] w fun e w' => e = .returned (.bool (tokenS R.data.toList)) ∧ w' = w) := fun w => token_any R w (by unfold maxLen; omega)
    have HA : Hid (tokenS A.data.toList = true → tokenS R.data.toList = true → s.data.toList.length ≤ 1000000 ∧ ∀ c ∈ s.data.toList, c.toNat < 128) := fun h1 h2 => by
      have l1 : A.data.toList.length ≤ 30 := by unfold tokenS at h1; simp at h1; simpa using h1.1.2
      have l2 : R.data.toList.length ≤ 30 := by unfold tokenS at h2; simp at h2; simpa using h2.1.2
      refine ⟨?_, fun c hm => ?_⟩
      · rw [(cutB_some 47 _ _ _ hc).1]; simp only [List.length_append, List.length_cons]; omega
      · rw [(cutB_some 47 _ _ _ hc).1] at hm
        rcases List.mem_append.1 hm with h | h
        · exact tok_ascii _ h1 c h
        · rcases List.mem_cons.1 h with h | h
          · subst h; decide
          · exact tok_ascii _ h2 c h
    clear hc hsz C0 h3 h4 h5 hI
    cases ha : tokenS A.data.toList
    · have HN : Hid (typeS s.data.toList = false) := by unfold Hid; rw [HT.out, ha]; rfl
      rw [ha] at CA
      clear HT HA CR ha hT
      go_enter Tryd.func61, Tryd.ntmps61
      go_wp2_with fail
      refine (C.out _).mono ?_
      rintro e w' ⟨rfl, hw'⟩
      have hw'' := hw'.symm
      subst hw''
      go_wp2_with fail
      refine (CA.out _).mono ?_
      rintro e w2 ⟨rfl, hw2⟩
      have hw2' := hw2.symm
      subst hw2'
      go_wp2_with fail
      go_ret
      exact ⟨by rw [HN.out]; rfl, Below.refl _ _⟩
    · cases hr : tokenS R.data.toList
      · have HN : Hid (typeS s.data.toList = false) := by unfold Hid; rw [HT.out, ha, hr]; rfl
        rw [ha] at CA
        rw [hr] at CR
        clear HT HA ha hr hT
        go_enter Tryd.func61, Tryd.ntmps61
        go_wp2_with fail
        refine (C.out _).mono ?_
        rintro e w' ⟨rfl, hw'⟩
        have hw'' := hw'.symm
        subst hw''
        go_wp2_with fail
        refine (CA.out _).mono ?_
        rintro e w2 ⟨rfl, hw2⟩
        have hw2' := hw2.symm
        subst hw2'
        go_wp2_with fail
        refine (CR.out _).mono ?_
        rintro e w3 ⟨rfl, hw3⟩
        have hw3' := hw3.symm
        subst hw3'
        go_wp2_with fail
        go_ret
        exact ⟨by rw [HN.out]; rfl, Below.refl _ _⟩
      · obtain ⟨hl, hasc⟩ := HA.out ha hr
        have HN : Hid (typeS s.data.toList = decide (small8 s.data.toList = s.data.toList)) := by unfold Hid; rw [HT.out, ha, hr, small_same]; rfl
        have CS : Hid (Calls Tryd.prog 97 #[.string s] w fun e w' => e = .returned (.string (ba (small8 s.data.toList))) ∧ Below w.heap.size w w') := rsmall_any s.data.toList w hl hasc (hT w (Below.refl _ _))
        have e1 : ((ba (small8 s.data.toList)).toList == s.toList) = decide (small8 s.data.toList = s.data.toList) := by
          rw [ByteArray.toList_eq, ByteArray.toList_eq, Bool.eq_iff_iff]; simp [ba]
        rw [ha] at CA
        rw [hr] at CR
        clear HT HA ha hr hT hl hasc
        generalize decide (small8 s.data.toList = s.data.toList) = T at *
        generalize ba (small8 s.data.toList) = SM at *
        go_enter Tryd.func61, Tryd.ntmps61
        go_wp2_with fail
        refine (C.out _).mono ?_
        rintro e w' ⟨rfl, hw'⟩
        have hw'' := hw'.symm
        subst hw''
        go_wp2_with fail
        refine (CA.out _).mono ?_
        rintro e w2 ⟨rfl, hw2⟩
        have hw2' := hw2.symm
        subst hw2'
        go_wp2_with fail
        refine (CR.out _).mono ?_
        rintro e w3 ⟨rfl, hw3⟩
        have hw3' := hw3.symm
        subst hw3'
        go_wp2_with fail
        refine CS.out.mono ?_
        rintro e w4 ⟨rfl, hb4⟩
        go_wp2_with fail
        go_ret
        exact ⟨by rw [HN.out]; first | rfl | (rw [e1]; rfl) | simp [e1], hb4⟩
end Go.Proofs.YtehiaenicfmpbaaDoor

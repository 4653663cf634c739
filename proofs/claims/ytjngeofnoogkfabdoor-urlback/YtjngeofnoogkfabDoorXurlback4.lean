/- strings.IndexByte as a question: is the byte there? No function of the program. -/
import Derived.Test.YtjngeofnoogkfabDoorXurlback2
import Derived.Test.YtjngeofnoogkfabDoorXurlback1
import Derived.Test.YtjngeofnoogkfabDoorXurlback3
namespace Go.Proofs.YtjngeofnoogkfabDoor
open Go.RowKit

theorem dropB (s : ByteArray) (k : Nat) (h : k < s.size) : s.data.toList.drop k = s[k] :: s.data.toList.drop (k + 1) := by
  rw [List.drop_eq_getElem_cons (by simpa using h)]; rfl

theorem ix_any (s : ByteArray) (l : List UInt8) (hs : s.data.toList = l) (c : UInt8) (cc : Int) (e : cc = (c.toNat : Int)) (w : World) :
    Calls Tryd.prog 29 #[.string s, .int .u8 cc] w fun e w' => ∃ i : Int, e = .returned (.int .i64 i) ∧ decide (0 ≤ i) = l.contains c ∧ w' = w := by
  subst e hs
  refine (Tryd.strings_IndexByte s (c.toNat : Int) w).mono ?_
  rintro e w' ⟨rfl, rfl⟩
  refine ⟨_, rfl, ?_, rfl⟩
  rw [indexByte_mem]
  simp

end Go.Proofs.YtjngeofnoogkfabDoor

/- url.isSmall, url.isLarge, url.every over each test that the package hands it, url.scheme: what the plain functions say; nothing that was there is changed. Condition: the text is not too long. -/
namespace Go.Proofs.YtjngeofnoogkfabDoor
open Go.RowKit

/-- Each byte meets p. -/
def allU (p : UInt8 → Bool) (l : List UInt8) : Bool := l.all p
theorem all_drop (p : UInt8 → Bool) (s : ByteArray) (k : Nat) (h : k < s.size) : allU p (s.data.toList.drop k) = (p s[k] && allU p (s.data.toList.drop (k + 1))) := by
  unfold allU
  rw [dropB s k h, List.all_cons]
theorem all_end (p : UInt8 → Bool) (s : ByteArray) : allU p (s.data.toList.drop s.size) = true := by
  rw [List.drop_of_length_le (by rw [← Lib.size_eq]; exact Nat.le_refl _)]; rfl

theorem usmall_any (c : UInt8) (w : World) : Calls Tryd.prog 55 #[.int .u8 (c.toNat : Int)] w fun e w' => e = .returned (.bool (isLowB c)) ∧ w' = w := by
  by_cases h1 : 97 ≤ c.toNat
  · have h1' : (97 : Int) ≤ (c.toNat : Int) := by omega
    by_cases h2 : c.toNat ≤ 122
    · have h2' : (c.toNat : Int) ≤ 122 := by omega
      have HN : Hid (isLowB c = true) := by unfold Hid isLowB; simp only [h1, h2]; simp
      go_enter Tryd.func55, Tryd.ntmps55
      go_wp2
      go_ret
      exact ⟨by rw [HN.out]; rfl, rfl⟩
    · have h2' : decide ((c.toNat : Int) ≤ 122) = false := by simp; omega
      have HN : Hid (isLowB c = false) := by unfold Hid isLowB; simp only [h2]; simp
      go_enter Tryd.func55, Tryd.ntmps55
      go_wp2
      go_ret
      exact ⟨by rw [HN.out]; rfl, rfl⟩
  · have h1' : decide ((97 : Int) ≤ (c.toNat : Int)) = false := by simp; omega
    have HN : Hid (isLowB c = false) := by unfold Hid isLowB; simp only [h1]; simp
    go_enter Tryd.func55, Tryd.ntmps55
    go_wp2
    go_ret
    exact ⟨by rw [HN.out]; rfl, rfl⟩

theorem ularge_any (c : UInt8) (w : World) : Calls Tryd.prog 54 #[.int .u8 (c.toNat : Int)] w fun e w' => e = .returned (.bool (isUpB c)) ∧ w' = w := by
  by_cases h1 : 65 ≤ c.toNat
  · have h1' : (65 : Int) ≤ (c.toNat : Int) := by omega
    by_cases h2 : c.toNat ≤ 90
    · have h2' : (c.toNat : Int) ≤ 90 := by omega
      have HN : Hid (isUpB c = true) := by unfold Hid isUpB; simp only [h1, h2]; simp
      go_enter Tryd.func54, Tryd.ntmps54
      go_wp2
      go_ret
      exact ⟨by rw [HN.out]; rfl, rfl⟩
    · have h2' : decide ((c.toNat : Int) ≤ 90) = false := by simp; omega
      have HN : Hid (isUpB c = false) := by unfold Hid isUpB; simp only [h2]; simp
      go_enter Tryd.func54, Tryd.ntmps54
      go_wp2
      go_ret
      exact ⟨by rw [HN.out]; rfl, rfl⟩
  · have h1' : decide ((65 : Int) ≤ (c.toNat : Int)) = false := by simp; omega
    have HN : Hid (isUpB c = false) := by unfold Hid isUpB; simp only [h1]; simp
    go_enter Tryd.func54, Tryd.ntmps54
    go_wp2
    go_ret
    exact ⟨by rw [HN.out]; rfl, rfl⟩

theorem unotup_any (c : UInt8) (w : World) : Calls Tryd.prog 66 #[.int .u8 (c.toNat : Int)] w fun e w' => e = .returned (.bool (!isUpB c)) ∧ w' = w := by
  have C := ularge_any c w
  generalize isUpB c = V at *
  have HC : Hid (Calls Tryd.prog 54 #[.int .u8 (c.toNat : Int)] w fun e w' => e = .returned (.bool V) ∧ w' = w) := C
  clear C
  go_enter Tryd.func66, Tryd.ntmps66
  go_wp2_with fail
  refine HC.out.mono ?_
  rintro e w' ⟨rfl, hw'⟩
  have hw'' := hw'.symm
  subst hw''
  clear HC
  go_wp2
  go_ret
  exact ⟨rfl, rfl⟩

def digB (c : UInt8) : Bool := decide (48 ≤ c.toNat) && decide (c.toNat ≤ 57)
theorem schB_num (c : UInt8) : schB c = (isLowB c || digB c || decide ((c.toNat : Int) = 43) || decide ((c.toNat : Int) = 45) || decide ((c.toNat : Int) = 46)) := by
  have e1 : ∀ d : UInt8, decide (c = d) = decide ((c.toNat : Int) = (d.toNat : Int)) := fun d => by
    rw [decide_eq_decide, ← UInt8.toNat_inj]; omega
  unfold schB digB
  rw [e1 43, e1 45, e1 46]
  rfl
set_option maxHeartbeats 1000000 in
theorem uschc_any (c : UInt8) (w : World) : Calls Tryd.prog 57 #[.int .u8 (c.toNat : Int)] w fun e w' => e = .returned (.bool (schB c)) ∧ w' = w := by
  have C := usmall_any c w
  have HS : Hid (schB c = (isLowB c || digB c || decide ((c.toNat : Int) = 43) || decide ((c.toNat : Int) = 45) || decide ((c.toNat : Int) = 46))) := schB_num c
  have HD : Hid (digB c = (decide ((48 : Int) ≤ (c.toNat : Int)) && decide ((c.toNat : Int) ≤ 57))) := by
    unfold Hid digB
    rw [show decide ((48 : Int) ≤ (c.toNat : Int)) = decide (48 ≤ c.toNat) from decide_eq_decide.2 (by omega), show decide ((c.toNat : Int) ≤ 57) = decide (c.toNat ≤ 57) from decide_eq_decide.2 (by omega)]
  generalize isLowB c = V at *
  have HC : Hid (Calls Tryd.prog 55 #[.int .u8 (c.toNat : Int)] w fun e w' => e = .returned (.bool V) ∧ w' = w) := C
  clear C
  cases V with
  | true =>
    go_enter Tryd.func57, Tryd.ntmps57
    go_wp2_with fail
    refine HC.out.mono ?_
    rintro e w' ⟨rfl, hw'⟩
    have hw'' := hw'.symm
    subst hw''
    clear HC
    go_wp2
    go_ret
    exact ⟨by rw [HS.out]; rfl, rfl⟩
  | false =>
    go_enter Tryd.func57, Tryd.ntmps57
    go_wp2_with fail
    refine HC.out.mono ?_
    rintro e w' ⟨rfl, hw'⟩
    have hw'' := hw'.symm
    subst hw''
    clear HC
    go_wp2
    all_goals (
      go_ret
      refine ⟨ret_bool ?_, rfl⟩
      rw [HS.out, HD.out, Bool.eq_iff_iff]
      simp
      try omega)

theorem ucap_any (g : Nat) (S but : ByteArray) (bl : List UInt8) (hbut : but.data.toList = bl) (c : UInt8) (w : World) (_h0 : w.cell? ⟨g, 0, none⟩ = some (.string S)) (h1 : w.cell? ⟨g, 1, none⟩ = some (.string but)) :
    Calls Tryd.prog 65 #[.int .u8 (c.toNat : Int), .pointer (some ⟨g, 0, none⟩)] w fun e w' => e = .returned (.bool (inB 33 126 bl c)) ∧ w' = w := by
  by_cases h1 : 33 ≤ c.toNat
  · have h1' : (33 : Int) ≤ (c.toNat : Int) := by omega
    by_cases h2 : c.toNat ≤ 126
    · have h2' : (c.toNat : Int) ≤ 126 := by omega
      have HN : Hid (inB 33 126 bl c = !bl.contains c) := by unfold Hid inB; simp only [h1, h2]; simp
      have hi9 : ∀ i : Int, decide (0 ≤ i) = bl.contains c → decide (i < 0) = !bl.contains c := by
        intro i h; rw [← h]; by_cases hi : 0 ≤ i <;> simp [hi] <;> omega
      go_enter Tryd.func65, Tryd.ntmps65
      go_wp2_with fail
      refine (ix_any _ bl hbut c _ rfl _).mono ?_
      rintro e w' ⟨i, rfl, hi, hw'⟩
      have hw'' := hw'.symm
      subst hw''
      have h3 := hi9 i hi
      clear hi hi9
      go_wp2
      go_ret
      exact ⟨by rw [HN.out]; simp, rfl⟩
    · have h2' : decide ((c.toNat : Int) ≤ 126) = false := by simp; omega
      have HN : Hid (inB 33 126 bl c = false) := by unfold Hid inB; simp only [h2]; simp
      go_enter Tryd.func65, Tryd.ntmps65
      go_wp2
      go_ret
      exact ⟨by rw [HN.out]; rfl, rfl⟩
  · have h1' : decide ((33 : Int) ≤ (c.toNat : Int)) = false := by simp; omega
    have HN : Hid (inB 33 126 bl c = false) := by unfold Hid inB; simp only [h1]; simp
    go_enter Tryd.func65, Tryd.ntmps65
    go_wp2
    go_ret
    exact ⟨by rw [HN.out]; rfl, rfl⟩

def lowOnly (c : UInt8) : Bool := !isUpB c

set_option maxHeartbeats 1000000 in
theorem every_sch (s : ByteArray) (w : World) (hs : s.size ≤ 1000000) :
    Calls Tryd.prog 56 #[.string s, .func (Fn.func 57) #[] #[]] w fun e w' => e = .returned (.bool (allU schB s.data.toList)) ∧ w' = w := by
  go_enter Tryd.func56, Tryd.ntmps56
  go_wp2
  go_loop [8] (fun iv => ∃ k : Nat, k ≤ s.size ∧ iv = .int .i64 k ∧ Hid (allU schB (s.data.toList.drop k) = allU schB s.data.toList)) (fun iv => s.size - (intOf iv).toNat)
  case atStart => exact ⟨0, Nat.zero_le _, rfl, rfl⟩
  case round =>
    obtain ⟨k, hk, rfl, HK⟩ := hrel
    by_cases hlt : k < s.size
    · have hdr : Hid (allU schB (s.data.toList.drop k) = (schB s[k] && allU schB (s.data.toList.drop (k + 1)))) := all_drop _ s k hlt
      cases hp : schB s[k]
      · have HN : Hid (allU schB s.data.toList = false) := by unfold Hid; rw [← HK.out, hdr.out, hp]; rfl
        have C : Hid (Calls Tryd.prog 57 #[.int .u8 (s[k].toNat : Int)] w fun e w' => e = .returned (.bool false) ∧ w' = w) := by unfold Hid; rw [← hp]; exact uschc_any _ w
        clear hdr HK hp
        go_wp2_with fail
        refine C.out.mono ?_
        rintro e w' ⟨rfl, hw'⟩
        have hw'' := hw'.symm
        subst hw''
        go_wp2
        go_ret
        exact ⟨by rw [HN.out]; rfl, rfl⟩
      · have HN : Hid (allU schB (s.data.toList.drop (k + 1)) = allU schB s.data.toList) := by unfold Hid; rw [← HK.out, hdr.out, hp]; rfl
        have C : Hid (Calls Tryd.prog 57 #[.int .u8 (s[k].toNat : Int)] w fun e w' => e = .returned (.bool true) ∧ w' = w) := by unfold Hid; rw [← hp]; exact uschc_any _ w
        clear hdr HK hp
        go_wp2_with fail
        refine C.out.mono ?_
        rintro e w' ⟨rfl, hw'⟩
        have hw'' := hw'.symm
        subst hw''
        go_wp2
        go_round
        case rel => exact ⟨k + 1, by omega, by go_num, HN⟩
        case measure => simp [intOf]; omega
    · obtain rfl : k = s.size := by omega
      have HN : Hid (allU schB s.data.toList = true) := by unfold Hid; rw [← HK.out]; exact all_end _ s
      clear HK
      go_wp2
      go_ret
      exact ⟨by rw [HN.out]; rfl, rfl⟩

set_option maxHeartbeats 1000000 in
theorem every_low (s : ByteArray) (w : World) (hs : s.size ≤ 1000000) :
    Calls Tryd.prog 56 #[.string s, .func (Fn.func 66) #[] #[]] w fun e w' => e = .returned (.bool (allU lowOnly s.data.toList)) ∧ w' = w := by
  go_enter Tryd.func56, Tryd.ntmps56
  go_wp2
  go_loop [8] (fun iv => ∃ k : Nat, k ≤ s.size ∧ iv = .int .i64 k ∧ Hid (allU lowOnly (s.data.toList.drop k) = allU lowOnly s.data.toList)) (fun iv => s.size - (intOf iv).toNat)
  case atStart => exact ⟨0, Nat.zero_le _, rfl, rfl⟩
  case round =>
    obtain ⟨k, hk, rfl, HK⟩ := hrel
    by_cases hlt : k < s.size
    · have hdr : Hid (allU lowOnly (s.data.toList.drop k) = (lowOnly s[k] && allU lowOnly (s.data.toList.drop (k + 1)))) := all_drop _ s k hlt
      cases hp : lowOnly s[k]
      · have HN : Hid (allU lowOnly s.data.toList = false) := by unfold Hid; rw [← HK.out, hdr.out, hp]; rfl
        have C : Hid (Calls Tryd.prog 66 #[.int .u8 (s[k].toNat : Int)] w fun e w' => e = .returned (.bool false) ∧ w' = w) := by unfold Hid; rw [← hp]; exact unotup_any _ w
        clear hdr HK hp
        go_wp2_with fail
        refine C.out.mono ?_
        rintro e w' ⟨rfl, hw'⟩
        have hw'' := hw'.symm
        subst hw''
        go_wp2
        go_ret
        exact ⟨by rw [HN.out]; rfl, rfl⟩
      · have HN : Hid (allU lowOnly (s.data.toList.drop (k + 1)) = allU lowOnly s.data.toList) := by unfold Hid; rw [← HK.out, hdr.out, hp]; rfl
        have C : Hid (Calls Tryd.prog 66 #[.int .u8 (s[k].toNat : Int)] w fun e w' => e = .returned (.bool true) ∧ w' = w) := by unfold Hid; rw [← hp]; exact unotup_any _ w
        clear hdr HK hp
        go_wp2_with fail
        refine C.out.mono ?_
        rintro e w' ⟨rfl, hw'⟩
        have hw'' := hw'.symm
        subst hw''
        go_wp2
        go_round
        case rel => exact ⟨k + 1, by omega, by go_num, HN⟩
        case measure => simp [intOf]; omega
    · obtain rfl : k = s.size := by omega
      have HN : Hid (allU lowOnly s.data.toList = true) := by unfold Hid; rw [← HK.out]; exact all_end _ s
      clear HK
      go_wp2
      go_ret
      exact ⟨by rw [HN.out]; rfl, rfl⟩

set_option maxHeartbeats 1000000 in
theorem every_cap (g : Nat) (S but : ByteArray) (bl : List UInt8) (hbut : but.data.toList = bl) (s : ByteArray) (w : World) (hs : s.size ≤ 1000000) (h0 : w.cell? ⟨g, 0, none⟩ = some (.string S)) (h1 : w.cell? ⟨g, 1, none⟩ = some (.string but)) :
    Calls Tryd.prog 56 #[.string s, .func (Fn.func 65) #[] #[.pointer (some ⟨g, 0, none⟩)]] w fun e w' => e = .returned (.bool (allU (inB 33 126 bl) s.data.toList)) ∧ w' = w := by
  go_enter Tryd.func56, Tryd.ntmps56
  go_wp2
  go_loop [8] (fun iv => ∃ k : Nat, k ≤ s.size ∧ iv = .int .i64 k ∧ Hid (allU (inB 33 126 bl) (s.data.toList.drop k) = allU (inB 33 126 bl) s.data.toList)) (fun iv => s.size - (intOf iv).toNat)
  case atStart => exact ⟨0, Nat.zero_le _, rfl, rfl⟩
  case round =>
    obtain ⟨k, hk, rfl, HK⟩ := hrel
    by_cases hlt : k < s.size
    · have hdr : Hid (allU (inB 33 126 bl) (s.data.toList.drop k) = ((inB 33 126 bl) s[k] && allU (inB 33 126 bl) (s.data.toList.drop (k + 1)))) := all_drop _ s k hlt
      cases hp : (inB 33 126 bl) s[k]
      · have HN : Hid (allU (inB 33 126 bl) s.data.toList = false) := by unfold Hid; rw [← HK.out, hdr.out, hp]; rfl
        have C : Hid (Calls Tryd.prog 65 #[.int .u8 (s[k].toNat : Int), .pointer (some ⟨g, 0, none⟩)] w fun e w' => e = .returned (.bool false) ∧ w' = w) := by unfold Hid; rw [← hp]; exact ucap_any g S but bl hbut _ w h0 h1
        clear hdr HK hp
        go_wp2_with fail
        refine C.out.mono ?_
        rintro e w' ⟨rfl, hw'⟩
        have hw'' := hw'.symm
        subst hw''
        go_wp2
        go_ret
        exact ⟨by rw [HN.out]; rfl, rfl⟩
      · have HN : Hid (allU (inB 33 126 bl) (s.data.toList.drop (k + 1)) = allU (inB 33 126 bl) s.data.toList) := by unfold Hid; rw [← HK.out, hdr.out, hp]; rfl
        have C : Hid (Calls Tryd.prog 65 #[.int .u8 (s[k].toNat : Int), .pointer (some ⟨g, 0, none⟩)] w fun e w' => e = .returned (.bool true) ∧ w' = w) := by unfold Hid; rw [← hp]; exact ucap_any g S but bl hbut _ w h0 h1
        clear hdr HK hp
        go_wp2_with fail
        refine C.out.mono ?_
        rintro e w' ⟨rfl, hw'⟩
        have hw'' := hw'.symm
        subst hw''
        go_wp2
        go_round
        case rel => exact ⟨k + 1, by omega, by go_num, HN⟩
        case measure => simp [intOf]; omega
    · obtain rfl : k = s.size := by omega
      have HN : Hid (allU (inB 33 126 bl) s.data.toList = true) := by unfold Hid; rw [← HK.out]; exact all_end _ s
      clear HK
      go_wp2
      go_ret
      exact ⟨by rw [HN.out]; rfl, rfl⟩

theorem scheme_nil : schemeS [] = false := rfl
set_option maxHeartbeats 1000000 in
/-- url.scheme. -/
theorem uscheme_any (s : ByteArray) (w : World) (hs : s.size ≤ 1000000) :
    Calls Tryd.prog 27 #[.string s] w fun e w' => e = .returned (.bool (schemeS s.data.toList)) ∧ w' = w := by
  have hle := Lib.size_eq s
  by_cases h1 : 1 ≤ s.size
  · have h1e : s.toList.isEmpty = false := by
      rw [ByteArray.toList_eq]
      cases h : s.data.toList with
      | nil => rw [h, List.length_nil] at hle; omega
      | cons a b => rfl
    have h1' : 0 < s.size := by omega
    have h1i : (0 : Int) < (s.size : Int) := by omega
    have HS : Hid (schemeS s.data.toList = (isLowB s[0] && allU schB s.data.toList)) := by
      unfold Hid schemeS
      have e := dropB s 0 h1'
      rw [List.drop_zero] at e
      cases hl : s.data.toList with
      | nil => rw [hl] at e; cases e
      | cons a l => rw [hl] at e; cases e; rfl
    have C1 := usmall_any s[0] w
    cases hb : isLowB s[0]
    · have HN : Hid (schemeS s.data.toList = false) := by unfold Hid; rw [HS.out, hb]; rfl
      rw [hb] at C1
      have HC : Hid (Calls Tryd.prog 55 #[.int .u8 (s[0].toNat : Int)] w fun e w' => e = .returned (.bool false) ∧ w' = w) := C1
      clear C1 HS hb hle
      go_enter Tryd.func27, Tryd.ntmps27
      go_wp2_with fail
      refine HC.out.mono ?_
      rintro e w' ⟨rfl, hw'⟩
      have hw'' := hw'.symm
      subst hw''
      clear HC
      go_wp2
      go_ret
      exact ⟨by rw [HN.out]; rfl, rfl⟩
    · have HN : Hid (schemeS s.data.toList = allU schB s.data.toList) := by unfold Hid; rw [HS.out, hb]; rfl
      rw [hb] at C1
      have HC : Hid (Calls Tryd.prog 55 #[.int .u8 (s[0].toNat : Int)] w fun e w' => e = .returned (.bool true) ∧ w' = w) := C1
      clear C1 HS hb hle
      go_enter Tryd.func27, Tryd.ntmps27
      go_wp2_with fail
      refine HC.out.mono ?_
      rintro e w' ⟨rfl, hw'⟩
      have hw'' := hw'.symm
      subst hw''
      clear HC
      go_wp2_with fail
      refine (every_sch s _ (by omega)).mono ?_
      rintro e w' ⟨rfl, hw'⟩
      have hw'' := hw'.symm
      subst hw''
      go_wp2
      go_ret
      exact ⟨by rw [HN.out]; rfl, rfl⟩
  · obtain rfl : s = ⟨#[]⟩ := by
      apply ByteArray.ext; apply Array.toList_inj.1; exact List.length_eq_zero_iff.1 (by rw [← hle]; omega)
    clear hle h1 hs
    go_enter Tryd.func27, Tryd.ntmps27
    go_wp2
    go_ret
    exact ⟨rfl, rfl⟩
end Go.Proofs.YtjngeofnoogkfabDoor

/- strings.Cut at one byte: what the plain function says; nothing that was there is changed. Condition: the text is no longer than a text can be. -/
namespace Go.Proofs.YtjngeofnoogkfabDoor
open Go.RowKit

/-- Where the first d is. -/
def whereB (d : UInt8) (l : List UInt8) : Int := match cutB d l with | none => -1 | some x => (x.1.length : Int)
theorem whereB_none {d : UInt8} {l : List UInt8} (h : cutB d l = none) : whereB d l = -1 := by rw [whereB, h]
theorem whereB_some {d : UInt8} {l : List UInt8} {x : List UInt8 × List UInt8} (h : cutB d l = some x) : whereB d l = (x.1.length : Int) := by rw [whereB, h]

theorem indexByte_where (d : UInt8) : ∀ l : List UInt8, Lib.indexByte l d = whereB d l
  | [] => rfl
  | b :: l => by
    rw [Lib.indexByte, indexByte_where d l]
    by_cases h : b = d
    · subst h; simp [whereB, cutB]
    · rw [if_neg (by simpa using h)]
      cases hc : cutB d l with
      | none => simp [whereB, cutB, h, hc]
      | some x =>
        have h1 : ¬ ((x.1.length : Int) == -1) = true := by rw [beq_iff_eq]; omega
        simp only [whereB, cutB, hc, h, if_false, Option.map_some, List.length_cons]
        rw [if_neg h1]
        omega

theorem cutB_none_drop (d : UInt8) (l : List UInt8) (k : Nat) (hk : k < l.length) (h1 : cutB d (l.drop k) = none) : l.getD k 0 ≠ d ∧ cutB d (l.drop (k + 1)) = none := by
  rw [List.drop_eq_getElem_cons hk, cutB] at h1
  split at h1
  · cases h1
  · rename_i e
    refine ⟨by simpa [List.getD_eq_getElem?_getD, List.getElem?_eq_getElem hk] using e, ?_⟩
    cases hc : cutB d (l.drop (k + 1)) with
    | none => rfl
    | some x => rw [hc] at h1; cases h1

theorem ba_cut (d : UInt8) (X : ByteArray) (n v : List UInt8) (h : X.data.toList = n ++ d :: v) : ∃ NM VL : ByteArray, X.extract 0 n.length = NM ∧ X.extract (n.length + 1) X.size = VL ∧ NM.data.toList = n ∧ VL.data.toList = v ∧ X.size = n.length + 1 + v.length := by
  have hl : X.size = n.length + 1 + v.length := by rw [Lib.size_eq, h]; simp; omega
  have e1 : (X.extract 0 n.length).data.toList = n := by rw [Lib.extract_data, h]; simp
  have e2 : (X.extract (n.length + 1) X.size).data.toList = v := by
    rw [Lib.extract_data, h, hl, show n.length + 1 + v.length - (n.length + 1) = v.length from by omega, ← List.drop_drop]
    simp
  exact ⟨_, _, rfl, rfl, e1, e2, hl⟩

theorem ba_inj {a b : ByteArray} (h : a.data.toList = b.data.toList) : a = b := ByteArray.ext (Array.toList_inj.1 h)

theorem lite_none (d : UInt8) (s : ByteArray) (w : World) (h : cutB d s.data.toList = none) :
    Calls Tryd.prog 52 #[.string s, .string ⟨#[d]⟩] w fun e w' => e = .returned (.tuple #[.string s, .string ⟨#[]⟩, .bool false]) ∧ w' = w := by
  have C := Tryd.stringslite_Index_one s d w
  rw [indexByte_where, whereB_none h] at C
  clear h
  have HC : Hid (Calls Tryd.prog 61 #[.string s, .string ⟨#[d]⟩] w fun e w' => e = .returned (.int .i64 (-1)) ∧ w' = w) := C
  clear C
  go_enter Tryd.func52, Tryd.ntmps52
  go_wp2_with fail
  refine HC.out.mono ?_
  rintro e w' ⟨rfl, hw'⟩
  have hw'' := hw'.symm
  subst hw''
  clear HC
  go_wp2
  go_ret3
  exact ⟨rfl, rfl⟩

set_option maxHeartbeats 1000000 in
theorem lite_someW (d : UInt8) (s a r : ByteArray) (w : World) (hs : s.size ≤ 9223372036854775807) (h : cutB d s.data.toList = some (a.data.toList, r.data.toList)) :
    Calls Tryd.prog 52 #[.string s, .string ⟨#[d]⟩] w fun e w' => e = .returned (.tuple #[.string a, .string r, .bool true]) ∧ Below w.heap.size w w' := by
  have C := Tryd.stringslite_Index_one s d w
  rw [indexByte_where, whereB_some h] at C
  simp only at C
  obtain ⟨A, R, h1, h2, h3, h4, h5⟩ := ba_cut d s _ _ (cutB_some d _ _ _ h).1
  have hA := ba_inj h3
  have hR := ba_inj h4
  subst hA hR
  obtain ⟨I, hI⟩ : ∃ I, I = A.data.toList.length := ⟨_, rfl⟩
  rw [← hI] at C h1 h2 h5
  have hI1 : (I : Int) < (s.size : Int) := by omega
  have hI2 : (I : Int) + 1 ≤ (s.size : Int) := by omega
  have HC : Hid (Calls Tryd.prog 61 #[.string s, .string ⟨#[d]⟩] w fun e w' => e = .returned (.int .i64 (I : Int)) ∧ w' = w) := C
  clear C h h3 h4 h5 hI
  go_enter Tryd.func52, Tryd.ntmps52
  go_wp2_with fail
  refine HC.out.mono ?_
  rintro e w' ⟨rfl, hw'⟩
  have hw'' := hw'.symm
  subst hw''
  clear HC
  go_wp2
  go_region
  go_wp2
  go_ret3
  exact ⟨rfl, (Below.refl _ _).drew⟩

theorem cut_none (d : UInt8) (s : ByteArray) (w : World) (h : cutB d s.data.toList = none) :
    Calls Tryd.prog 24 #[.string s, .string ⟨#[d]⟩] w fun e w' => e = .returned (.tuple #[.string s, .string ⟨#[]⟩, .bool false]) ∧ Below w.heap.size w w' := by
  have HC : Hid (Calls Tryd.prog 52 #[.string s, .string ⟨#[d]⟩] w fun e w' => e = .returned (.tuple #[.string s, .string ⟨#[]⟩, .bool false]) ∧ w' = w) := lite_none d s w h
  clear h
  go_enter Tryd.func24, Tryd.ntmps24
  go_wp2_with fail
  refine HC.out.mono ?_
  rintro e w' ⟨rfl, hw'⟩
  have hw'' := hw'.symm
  subst hw''
  clear HC
  go_wp2
  go_ret3
  exact ⟨rfl, Below.refl _ _⟩
theorem cut_someW (d : UInt8) (s a r : ByteArray) (w : World) (hs : s.size ≤ 9223372036854775807) (h : cutB d s.data.toList = some (a.data.toList, r.data.toList)) :
    Calls Tryd.prog 24 #[.string s, .string ⟨#[d]⟩] w fun e w' => e = .returned (.tuple #[.string a, .string r, .bool true]) ∧ Below w.heap.size w w' := by
  have HC : Hid (Calls Tryd.prog 52 #[.string s, .string ⟨#[d]⟩] w fun e w' => e = .returned (.tuple #[.string a, .string r, .bool true]) ∧ Below w.heap.size w w') := lite_someW d s a r w hs h
  clear h
  go_enter Tryd.func24, Tryd.ntmps24
  go_wp2_with fail
  refine HC.out.mono ?_
  rintro e w' ⟨rfl, hb⟩
  clear HC
  go_wp2
  go_ret3
  exact ⟨rfl, hb⟩
theorem cut_some (d : UInt8) (s a r : ByteArray) (w : World) (hs : s.size ≤ 1000000000) (h : cutB d s.data.toList = some (a.data.toList, r.data.toList)) :
    Calls Tryd.prog 24 #[.string s, .string ⟨#[d]⟩] w fun e w' => e = .returned (.tuple #[.string a, .string r, .bool true]) ∧ Below w.heap.size w w' :=
  cut_someW d s a r w (by omega) h

/-- What is ahead of, and behind, a byte, as texts. -/
theorem cut_parts {d : UInt8} {s : ByteArray} {x : List UInt8 × List UInt8} (h : cutB d s.data.toList = some x) : ∃ a r : ByteArray, x = (a.data.toList, r.data.toList) ∧ s.size = a.size + 1 + r.size := by
  refine ⟨⟨x.1.toArray⟩, ⟨x.2.toArray⟩, rfl, ?_⟩
  have e := (cutB_some d s.data.toList x.1 x.2 h).1
  rw [Lib.size_eq, e, Lib.size_eq, Lib.size_eq]
  simp only [List.length_append, List.length_cons]
  omega

end Go.Proofs.YtjngeofnoogkfabDoor

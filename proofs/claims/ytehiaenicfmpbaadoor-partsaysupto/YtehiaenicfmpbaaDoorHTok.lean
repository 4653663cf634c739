/- header.every, header.Token, header.Value: what the plain functions say; nothing that was there is changed. Condition: the text is no longer than a text can be. -/
import Derived.Test.YtehiaenicfmpbaaDoorFields
import Derived.Test.YtehiaenicfmpbaaDoorHLib
namespace Go.Proofs.YtehiaenicfmpbaaDoor
open Go.RowKit

theorem valc_any (c : UInt8) (w : World) : Calls Tryd.prog 102 #[.int .u8 (c.toNat : Int)] w fun e w' => e = .returned (.bool (inB 32 126 [] c)) ∧ w' = w := by
  by_cases h1 : 32 ≤ c.toNat
  · have h1' : (32 : Int) ≤ (c.toNat : Int) := by omega
    by_cases h2 : c.toNat ≤ 126
    · have h2' : (c.toNat : Int) ≤ 126 := by omega
      have HN : Hid (inB 32 126 [] c = true) := by unfold Hid inB; simp only [h1, h2]; simp
      go_enter Tryd.func102, Tryd.ntmps102
      go_wp2
      go_ret
      exact ⟨by rw [HN.out]; rfl, rfl⟩
    · have h2' : decide ((c.toNat : Int) ≤ 126) = false := by simp; omega
      have HN : Hid (inB 32 126 [] c = false) := by unfold Hid inB; simp only [h2]; simp
      go_enter Tryd.func102, Tryd.ntmps102
      go_wp2
      go_ret
      exact ⟨by rw [HN.out]; rfl, rfl⟩
  · have h1' : decide ((32 : Int) ≤ (c.toNat : Int)) = false := by simp; omega
    have HN : Hid (inB 32 126 [] c = false) := by unfold Hid inB; simp only [h1]; simp
    go_enter Tryd.func102, Tryd.ntmps102
    go_wp2
    go_ret
    exact ⟨by rw [HN.out]; rfl, rfl⟩

set_option maxHeartbeats 1000000 in
theorem every_val (s : ByteArray) (w : World) (hs : s.size ≤ 1000000) :
    Calls Tryd.prog 98 #[.string s, .func (Fn.func 102) #[] #[]] w fun e w' => e = .returned (.bool (allB valB s.data.toList)) ∧ w' = w := by
  go_enter Tryd.func98, Tryd.ntmps98
  go_wp2
  go_loop [8] (fun iv => ∃ k : Nat, k ≤ s.size ∧ iv = .int .i64 k ∧ Hid (allB valB (s.data.toList.drop k) = allB valB s.data.toList)) (fun iv => s.size - (intOf iv).toNat)
  case atStart => exact ⟨0, Nat.zero_le _, rfl, rfl⟩
  case round =>
    obtain ⟨k, hk, rfl, HK⟩ := hrel
    by_cases hlt : k < s.size
    · have hdr : Hid (allB valB (s.data.toList.drop k) = (valB s[k] && allB valB (s.data.toList.drop (k + 1)))) := by unfold Hid; rw [dropB s k hlt, allB_cons]
      cases hp : valB s[k]
      · have HN : Hid (allB valB s.data.toList = false) := by unfold Hid; rw [← HK.out, hdr.out, hp]; rfl
        have C : Hid (∀ w, Calls Tryd.prog 102 #[.int .u8 (s[k].toNat : Int)] w fun e w' => e = .returned (.bool false) ∧ w' = w) := by intro w; rw [← hp]; exact valc_any _ w
        clear hdr HK hp
        go_wp2_with fail
        refine (C.out _).mono ?_
        rintro e w' ⟨rfl, hw'⟩
        have hw'' := hw'.symm
        subst hw''
        go_wp2
        go_ret
        exact ⟨by rw [HN.out]; rfl, rfl⟩
      · have HN : Hid (allB valB (s.data.toList.drop (k + 1)) = allB valB s.data.toList) := by unfold Hid; rw [← HK.out, hdr.out, hp]; rfl
        have C : Hid (∀ w, Calls Tryd.prog 102 #[.int .u8 (s[k].toNat : Int)] w fun e w' => e = .returned (.bool true) ∧ w' = w) := by intro w; rw [← hp]; exact valc_any _ w
        clear hdr HK hp
        go_wp2_with fail
        refine (C.out _).mono ?_
        rintro e w' ⟨rfl, hw'⟩
        have hw'' := hw'.symm
        subst hw''
        go_wp2
        go_round
        case rel => exact ⟨k + 1, by omega, by go_num, HN⟩
        case measure => simp [intOf]; omega
    · obtain rfl : k = s.size := by omega
      have HN : Hid (allB valB s.data.toList = true) := by
        unfold Hid
        rw [← HK.out, List.drop_of_length_le (by rw [← Lib.size_eq]; exact Nat.le_refl _)]; rfl
      clear HK
      go_wp2
      go_ret
      exact ⟨by rw [HN.out]; rfl, rfl⟩

theorem trimSp_iff (l : List UInt8) : trimBy isSp l = l ↔ l.head? ≠ some 32 ∧ l.getLast? ≠ some 32 := by
  constructor
  · intro h
    have hl : (trimBy isSp l).length = l.length := by rw [h]
    have h2 : (dropEnd isSp l).length = l.length := by
      have a := dropEnd_length isSp l
      have b := (List.dropWhile_sublist isSp (l := dropEnd isSp l)).length_le
      have c : (trimBy isSp l).length = ((dropEnd isSp l).dropWhile isSp).length := rfl
      omega
    have hd : dropEnd isSp l = l := by
      unfold dropEnd at h2 ⊢
      have s := (List.dropWhile_sublist isSp (l := l.reverse)).eq_of_length (by simpa using h2)
      rw [s, List.reverse_reverse]
    constructor
    · intro hh
      cases l with
      | nil => cases hh
      | cons a l =>
        rw [List.head?_cons] at hh
        obtain rfl := Option.some.inj hh
        rw [trimBy, hd, List.dropWhile_cons, if_pos (by rfl)] at hl
        have := (List.dropWhile_sublist isSp (l := l)).length_le
        simp at hl; omega
    · intro hh
      rcases List.eq_nil_or_concat l with rfl | ⟨x, d, rfl⟩
      · cases hh
      · rw [List.concat_eq_append] at hh hd h2
        simp at hh
        subst hh
        rw [dropEnd_yes isSp x 32 rfl] at h2
        have := dropEnd_length isSp x
        simp at h2; omega
  · rintro ⟨h1, h2⟩
    refine trimBy_self isSp l (fun c hc => ?_) (fun c hc => ?_)
    · rw [isSp_eq]; show (c == 32) = false; rw [beq_eq_false_iff_ne]; rintro rfl; exact h1 hc
    · rw [isSp_eq]; show (c == 32) = false; rw [beq_eq_false_iff_ne]; rintro rfl; exact h2 hc

/-- header.Value. -/
theorem hval_any (s : ByteArray) (w : World) (hs : s.size ≤ maxLen) :
    Calls Tryd.prog 36 #[.string s] w fun e w' => e = .returned (.bool (valueS s.data.toList)) ∧ Below w.heap.size w w' := by
  unfold maxLen at hs
  have hle := Lib.size_eq s
  by_cases h1 : s.size ≤ 900
  · have h1' : (s.size : Int) ≤ 900 := by omega
    obtain ⟨T, hT, hTs⟩ := mk_trim isSp s.data.toList
    have C1 : Hid (∀ w', Calls Tryd.prog 85 #[.string s, .string ⟨#[32]⟩] w' fun e w'' => e = .returned (.string T) ∧ Below w'.heap.size w' w'') := fun w' => trimSp_any s T hT w' (by omega)
    by_cases h2 : T = s
    · have HT : Hid (valueS s.data.toList = allB valB s.data.toList) := by
        rw [h2] at hT
        have := (trimSp_iff s.data.toList).1 hT.symm
        unfold Hid valueS betw allB valB
        have a1 : (s.data.toList.head? == some 32) = false := by rw [beq_eq_false_iff_ne]; exact this.1
        have a2 : (s.data.toList.getLast? == some 32) = false := by rw [beq_eq_false_iff_ne]; exact this.2
        rw [← hle, a1, a2, decide_eq_true h1]
        simp only [Bool.true_and, Bool.not_false, Bool.and_true]
      subst h2
      clear hT hTs hle
      go_enter Tryd.func36, Tryd.ntmps36
      go_wp2_with fail
      refine (C1.out _).mono ?_
      rintro e w1 ⟨rfl, hb⟩
      go_wp2_with fail
      refine (every_val T _ (by omega)).mono ?_
      rintro e w' ⟨rfl, hw'⟩
      have hw'' := hw'.symm
      subst hw''
      go_wp2
      go_ret
      exact ⟨by rw [HT.out]; rfl, hb⟩
    · have HT : Hid (valueS s.data.toList = false) := by
        have : ¬ trimBy isSp s.data.toList = s.data.toList := fun e => h2 (by
          apply ByteArray.ext; apply Array.toList_inj.1; rw [hT, e])
        rw [trimSp_iff] at this
        unfold Hid valueS
        rw [← Bool.not_eq_true]
        intro h
        simp only [Bool.and_eq_true, Bool.not_eq_true', beq_eq_false_iff_ne] at h
        exact this ⟨h.1.2, h.2⟩
      have hbe : (T.toList == s.toList) = false := by
        rw [beq_eq_false_iff_ne, ByteArray.toList_eq, ByteArray.toList_eq]
        exact fun e => h2 (ByteArray.ext (Array.toList_inj.1 e))
      clear hT hTs hle
      go_enter Tryd.func36, Tryd.ntmps36
      go_wp2_with fail
      refine (C1.out _).mono ?_
      rintro e w1 ⟨rfl, hb⟩
      go_wp2
      go_ret
      exact ⟨by rw [HT.out]; rfl, hb⟩
  · have h1' : decide ((s.size : Int) ≤ 900) = false := by simp; omega
    have HN : Hid (valueS s.data.toList = false) := by unfold Hid valueS; rw [← hle]; simp; omega
    clear hle
    go_enter Tryd.func36, Tryd.ntmps36
    go_wp2
    go_ret
    exact ⟨by rw [HN.out]; rfl, Below.refl _ _⟩
end Go.Proofs.YtehiaenicfmpbaaDoor

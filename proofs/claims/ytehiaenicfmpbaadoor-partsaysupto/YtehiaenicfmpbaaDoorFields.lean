/- The reference's between, IsToken, IsValue: what the plain functions say; the world is as it was. Condition: the text is no longer than a text can be. -/
import Derived.Test.YtehiaenicfmpbaaDoorCommon
import Derived.Test.YtehiaenicfmpbaaDoorPlainH
import Derived.Test.YtehiaenicfmpbaaDoorShelf
import Derived.Test.YtehiaenicfmpbaaDoorTok
namespace Go.Proofs.YtehiaenicfmpbaaDoor
open Go.RowKit

set_option maxHeartbeats 1000000 in
theorem between_any (s but : ByteArray) (bl : List UInt8) (hbut : but.data.toList = bl) (lo hi : Nat) (loi hii : Int) (e1 : loi = (lo : Int)) (e2 : hii = (hi : Int)) (w : World) (hs : s.size ≤ 1000000) :
    Calls Tryd.prog 101 #[.string s, .int .u8 loi, .int .u8 hii, .string but] w fun e w' => e = .returned (.bool (betw lo hi bl s.data.toList)) ∧ w' = w := by
  subst e1 e2
  go_enter Tryd.func101, Tryd.ntmps101
  go_wp2
  go_loop [12] (fun iv => ∃ k : Nat, k ≤ s.size ∧ iv = .int .i64 k ∧ Hid (betw lo hi bl (s.data.toList.drop k) = betw lo hi bl s.data.toList)) (fun iv => s.size - (intOf iv).toNat)
  case atStart => exact ⟨0, Nat.zero_le _, rfl, rfl⟩
  case round =>
    obtain ⟨k, hk, rfl, HK⟩ := hrel
    by_cases hlt : k < s.size
    · have hdr : Hid (betw lo hi bl (s.data.toList.drop k) = (inB lo hi bl s[k] && betw lo hi bl (s.data.toList.drop (k + 1)))) := by unfold Hid; rw [dropB s k hlt, betw_cons]
      by_cases h1 : s[k].toNat < lo
      · have HN : Hid (betw lo hi bl s.data.toList = false) := by
          unfold Hid
          rw [← HK.out, hdr.out, show inB lo hi bl s[k] = false from by simp [inB]; omega]; rfl
        have h1' : (s[k].toNat : Int) < (lo : Int) := by omega
        clear hdr HK
        go_wp2
        go_ret
        exact ⟨by rw [HN.out]; rfl, rfl⟩
      · have h1' : decide ((s[k].toNat : Int) < (lo : Int)) = false := by simp; omega
        by_cases h2 : hi < s[k].toNat
        · have HN : Hid (betw lo hi bl s.data.toList = false) := by
            unfold Hid
            rw [← HK.out, hdr.out, show inB lo hi bl s[k] = false from by simp [inB]; omega]; rfl
          have h2' : (hi : Int) < (s[k].toNat : Int) := by omega
          clear hdr HK
          go_wp2
          go_ret
          exact ⟨by rw [HN.out]; rfl, rfl⟩
        · have h2' : decide ((hi : Int) < (s[k].toNat : Int)) = false := by simp; omega
          cases h3 : bl.contains s[k]
          · have HN : Hid (betw lo hi bl (s.data.toList.drop (k + 1)) = betw lo hi bl s.data.toList) := by
              unfold Hid
              rw [← HK.out, hdr.out, show inB lo hi bl s[k] = true from by simp only [inB, h3]; simp; omega]; rfl
            clear hdr HK
            go_wp2_with (go_at_call 100; refine (ix_any but bl hbut s[k] _ rfl _).mono ?_; rintro e w' ⟨i, rfl, hi9, hw'⟩; rw [h3] at hi9; have hw'' := hw'.symm; subst hw'')
            go_round
            case rel => exact ⟨k + 1, by omega, by go_num, HN⟩
            case measure => simp [intOf]; omega
          · have HN : Hid (betw lo hi bl s.data.toList = false) := by
              unfold Hid
              rw [← HK.out, hdr.out, show inB lo hi bl s[k] = false from by simp only [inB, h3]; simp]; rfl
            clear hdr HK
            go_wp2_with (go_at_call 100; refine (ix_any but bl hbut s[k] _ rfl _).mono ?_; rintro e w' ⟨i, rfl, hi9, hw'⟩; rw [h3] at hi9; have hw'' := hw'.symm; subst hw'')
            go_ret
            exact ⟨by rw [HN.out]; rfl, rfl⟩
    · obtain rfl : k = s.size := by omega
      have HN : Hid (betw lo hi bl s.data.toList = true) := by
        unfold Hid
        rw [← HK.out, List.drop_of_length_le (by rw [← Lib.size_eq]; exact Nat.le_refl _)]; rfl
      clear HK
      go_wp2
      go_ret
      exact ⟨by rw [HN.out]; rfl, rfl⟩

theorem token_any (s : ByteArray) (w : World) (hs : s.size ≤ maxLen) :
    Calls Tryd.prog 35 #[.string s] w fun e w' => e = .returned (.bool (tokenS s.data.toList)) ∧ w' = w := by
  unfold maxLen at hs
  have hle := Lib.size_eq s
  by_cases h1 : 1 ≤ s.size
  · have h1' : (1 : Int) ≤ (s.size : Int) := by omega
    by_cases h2 : s.size ≤ 30
    · have h2' : (s.size : Int) ≤ 30 := by omega
      have HN : Hid (tokenS s.data.toList = betw 33 126 specials s.data.toList) := by unfold Hid tokenS; rw [← hle]; simp [h1, h2]
      clear hle
      go_enter Tryd.func35, Tryd.ntmps35
      go_wp2_with (go_at_call 101; refine (between_any s _ specials rfl 33 126 _ _ rfl rfl _ (by omega)).mono ?_; rintro e w' ⟨rfl, hw'⟩; have hw'' := hw'.symm; subst hw'')
      go_ret
      exact ⟨by rw [HN.out]; rfl, rfl⟩
    · have h2' : decide ((s.size : Int) ≤ 30) = false := by simp; omega
      have HN : Hid (tokenS s.data.toList = false) := by unfold Hid tokenS; rw [← hle]; simp; omega
      clear hle
      go_enter Tryd.func35, Tryd.ntmps35
      go_wp2
      go_ret
      exact ⟨by rw [HN.out]; rfl, rfl⟩
  · have h1' : decide ((1 : Int) ≤ (s.size : Int)) = false := by simp; omega
    have HN : Hid (tokenS s.data.toList = false) := by unfold Hid tokenS; rw [← hle]; simp; omega
    clear hle
    go_enter Tryd.func35, Tryd.ntmps35
    go_wp2
    go_ret
    exact ⟨by rw [HN.out]; rfl, rfl⟩

theorem hasPrefix_sp (l : List UInt8) : Lib.hasPrefix l [32] = (l.head? == some 32) := by
  cases l with
  | nil => rfl
  | cons a l => simp [Lib.hasPrefix, List.isPrefixOf, Bool.beq_comm]
theorem hasSuffix_sp (l : List UInt8) : Lib.hasSuffix l [32] = (l.getLast? == some 32) := by
  rcases List.eq_nil_or_concat l with rfl | ⟨x, d, rfl⟩
  · simp [Lib.hasSuffix]
  · rw [List.concat_eq_append, Lib.hasSuffix, Bool.eq_iff_iff]
    simp only [List.isSuffixOf_iff_suffix, beq_iff_eq, List.getLast?_append, List.getLast?_singleton, Option.some_or]
    constructor
    · rintro ⟨t, ht⟩
      have := congrArg List.getLast? ht
      simp at this
      rw [this]
    · intro h
      obtain rfl := Option.some.inj h
      exact ⟨x, rfl⟩

theorem value_any (s : ByteArray) (w : World) (hs : s.size ≤ maxLen) :
    Calls Tryd.prog 37 #[.string s] w fun e w' => e = .returned (.bool (valueS s.data.toList)) ∧ w' = w := by
  unfold maxLen at hs
  have hle := Lib.size_eq s
  by_cases h1 : s.size ≤ 900
  · have h1' : (s.size : Int) ≤ 900 := by omega
    have HN : Hid (valueS s.data.toList = (betw 32 126 [] s.data.toList && !Lib.hasPrefix s.data.toList [32] && !Lib.hasSuffix s.data.toList [32])) := by unfold Hid valueS; rw [← hle, hasPrefix_sp, hasSuffix_sp]; simp [h1]
    clear hle
    have C1 := Tryd.strings_HasPrefix s ⟨#[32]⟩ w
    have C2 := Tryd.strings_HasSuffix s ⟨#[32]⟩ w (by omega)
    rw [show (ByteArray.mk #[32]).data.toList = [32] from rfl] at C1 C2
    obtain ⟨B1, hB1⟩ : ∃ b, betw 32 126 [] s.data.toList = b := ⟨_, rfl⟩
    obtain ⟨B2, hB2⟩ : ∃ b, Lib.hasPrefix s.data.toList [32] = b := ⟨_, rfl⟩
    obtain ⟨B3, hB3⟩ : ∃ b, Lib.hasSuffix s.data.toList [32] = b := ⟨_, rfl⟩
    have C0 := between_any s ⟨#[]⟩ [] rfl 32 126 _ _ rfl rfl w (by omega)
    rw [hB1] at C0 HN
    rw [hB2] at C1 HN
    rw [hB3] at C2 HN
    clear hB1 hB2 hB3
    have K0 : Hid (Calls Tryd.prog 101 #[.string s, .int .u8 32, .int .u8 126, .string ⟨#[]⟩] w fun e w' => e = .returned (.bool B1) ∧ w' = w) := C0
    have K1 : Hid (Calls Tryd.prog 103 #[.string s, .string ⟨#[32]⟩] w fun e w' => e = .returned (.bool B2) ∧ w' = w) := C1
    have K2 : Hid (Calls Tryd.prog 84 #[.string s, .string ⟨#[32]⟩] w fun e w' => e = .returned (.bool B3) ∧ w' = w) := C2
    clear C0 C1 C2
    cases B1 <;> cases B2 <;> cases B3 <;>
    (go_enter Tryd.func37, Tryd.ntmps37
     go_wp2_with (first | (go_at_call 101; refine K0.out.mono ?_; rintro e w' ⟨rfl, hw'⟩; have hw'' := hw'.symm; subst hw'') | (go_at_call 103; refine K1.out.mono ?_; rintro e w' ⟨rfl, hw'⟩; have hw'' := hw'.symm; subst hw'') | (go_at_call 84; refine K2.out.mono ?_; rintro e w' ⟨rfl, hw'⟩; have hw'' := hw'.symm; subst hw''))
     go_ret
     exact ⟨by rw [HN.out]; rfl, rfl⟩)
  · have h1' : decide ((s.size : Int) ≤ 900) = false := by simp; omega
    have HN : Hid (valueS s.data.toList = false) := by unfold Hid valueS; rw [← hle]; simp; omega
    clear hle
    go_enter Tryd.func37, Tryd.ntmps37
    go_wp2
    go_ret
    exact ⟨by rw [HN.out]; rfl, rfl⟩
end Go.Proofs.YtehiaenicfmpbaaDoor

/- slices.Index of a byte in bytes; conversions; small facts for reading fields. The world is as it was. Conditions: the bytes lie there. -/
import Derived.Test.YtehiaenicfmpbaaDoorXpartsaysupto2
import Derived.Test.YtehiaenicfmpbaaDoorXpartsaysupto1
import Derived.Test.YtehiaenicfmpbaaDoorXpartsaysupto3
import Derived.Test.YtehiaenicfmpbaaDoorXpartsaysupto5
import Derived.Test.YtehiaenicfmpbaaDoorXpartsaysupto16
import Derived.Test.YtehiaenicfmpbaaDoorXpartsaysupto4
namespace Go.Proofs.YtehiaenicfmpbaaDoor
open Go.RowKit

set_option maxHeartbeats 1000000 in
theorem index_some (b o n c : Nat) (L : List UInt8) (en : n = L.length) (d : UInt8) (dd : Int) (ed : dd = (d.toNat : Int)) (w : World) (h0 : 1 ≤ n) (hn : n ≤ 1000000000)
    (hc : ∀ i, i < n → w.cell? ⟨b, o + i, none⟩ = some (.int .u8 ((L.getD i 0).toNat : Int))) :
    Calls Tryd.prog 107 #[.slice (some ⟨b, o, none⟩) n c, .int .u8 dd] w fun e w' => e = .returned (.int .i64 (whereB d L)) ∧ w' = w := by
  subst ed
  have HL : Hid (n = L.length) := en
  clear en
  go_enter Tryd.func107, Tryd.ntmps107
  go_wp2
  go_loop [8] (fun iv => ∃ k : Nat, k ≤ n ∧ iv = .int .i64 k ∧ Hid (whereB d L = if whereB d (L.drop k) = -1 then -1 else whereB d (L.drop k) + k)) (fun iv => n - (intOf iv).toNat)
  case atStart => exact ⟨0, Nat.zero_le _, rfl, by unfold Hid; rw [List.drop_zero]; split <;> omega⟩
  case round =>
    obtain ⟨k, hk, rfl, HK⟩ := hrel
    by_cases hlt : k < n
    · have h1 := hc k hlt
      clear hc
      have hkl : k < L.length := by rw [← HL.out]; exact hlt
      by_cases he : L.getD k 0 = d
      · have HN : Hid (whereB d L = (k : Int)) := by
          have e : whereB d (L.drop k) = 0 := by
            rw [List.drop_eq_getElem_cons hkl, whereB, cutB, if_pos (by simpa [List.getD_eq_getElem?_getD, List.getElem?_eq_getElem hkl] using he)]; rfl
          unfold Hid
          rw [HK.out, e]
          simp
        rw [he] at h1
        have hbe : ((d.toNat : Int) == (d.toNat : Int)) = true := by simp
        clear HK
        go_wp2
        go_ret
        exact ⟨by rw [HN.out]; rfl, rfl⟩
      · have HN : Hid (whereB d L = if whereB d (L.drop (k + 1)) = -1 then -1 else whereB d (L.drop (k + 1)) + ((k + 1 : Nat) : Int)) := by
          have hne : ¬ L[k] = d := by simpa [List.getD_eq_getElem?_getD, List.getElem?_eq_getElem hkl] using he
          unfold Hid
          rw [HK.out, List.drop_eq_getElem_cons hkl]
          cases hcu : cutB d (L.drop (k + 1)) with
          | none => simp [whereB, cutB, hne, hcu]
          | some x =>
            have a1 : ¬ ((x.1.length : Int) = -1) := by omega
            have a2 : ¬ (((x.1.length + 1 : Nat) : Int) = -1) := by omega
            simp only [whereB, cutB, hne, hcu, if_false, Option.map_some, List.length_cons]
            rw [if_neg a2, if_neg a1]
            omega
        have hbe : ((d.toNat : Int) == ((L.getD k 0).toNat : Int)) = false := by
          rw [beq_eq_false_iff_ne]
          intro e
          apply he
          have : d.toNat = (L.getD k 0).toNat := by omega
          exact (UInt8.toNat_inj.1 this).symm
        clear HK he
        generalize L.getD k 0 = x at *
        go_wp2
        go_round
        case rel => exact ⟨k + 1, by omega, by go_num, HN⟩
        case measure => simp [intOf]; omega
    · obtain rfl : k = n := by omega
      have HN : Hid (whereB d L = -1) := by
        unfold Hid
        rw [HK.out, HL.out, List.drop_length]
        rfl
      clear hc
      go_wp2
      go_ret
      exact ⟨by rw [HN.out]; rfl, rfl⟩

theorem index_nil (p : Option Addr) (c : Nat) (d : UInt8) (w : World) :
    Calls Tryd.prog 107 #[.slice p 0 c, .int .u8 (d.toNat : Int)] w fun e w' => e = .returned (.int .i64 (-1)) ∧ w' = w := by
  go_enter Tryd.func107, Tryd.ntmps107
  go_wp2
  refine wp_loop_rounds 1 ?_
  rw [rounds_succ]
  go_wp2
  go_ret
  exact ⟨rfl, rfl⟩
end Go.Proofs.YtehiaenicfmpbaaDoor

/- strings.Cut at one byte, strings.TrimSuffix of a return, strings.CutPrefix of a quote, TrimLeft, TrimRight of blanks: what they answer; nothing that was there is changed. -/
namespace Go.Proofs.YtehiaenicfmpbaaDoor
open Go.RowKit

theorem trimCR_any (X T : ByteArray) (hT : T.data.toList = noCR X.data.toList) (w : World) (hX : X.size ≤ 1000000000) :
    Calls Tryd.prog 91 #[.string X, .string ⟨#[13]⟩] w fun e w' => e = .returned (.string T) ∧ w' = w := by
  refine (Tryd.strings_TrimSuffix X ⟨#[13]⟩ w (by omega)).mono ?_
  rintro e w' ⟨rfl, rfl⟩
  refine ⟨?_, rfl⟩
  have e1 : Lib.trimSuffix X.data.toList [13] = T.data.toList := by
    rw [hT]
    unfold Lib.trimSuffix noCR
    rcases List.eq_nil_or_concat X.data.toList with h | ⟨x, d, h⟩
    · rw [h]; rfl
    · rw [h, List.concat_eq_append]
      by_cases hd : d = 13
      · subst hd
        simp [Lib.hasSuffix]
      · have h2 : Lib.hasSuffix (x ++ [d]) [13] = false := by
          rw [← Bool.not_eq_true]
          intro hh
          unfold Lib.hasSuffix at hh
          rw [List.isSuffixOf_iff_suffix] at hh
          obtain ⟨t, ht⟩ := hh
          have := congrArg List.getLast? ht
          simp at this
          exact hd this.symm
        simp [h2, hd]
  rw [show (ByteArray.mk #[13]).data.toList = [13] from rfl, e1]

theorem trimLSp_any (X T : ByteArray) (hT : T.data.toList = X.data.toList.dropWhile isSp) (w : World) :
    Calls Tryd.prog 146 #[.string X, .string ⟨#[32]⟩] w fun e w' => e = .returned (.string T) ∧ w' = w := by
  refine (Tryd.strings_TrimLeft_one X 32 (by decide) w).mono ?_
  rintro e w' ⟨rfl, rfl⟩
  have e1 : Lib.trimLeftB X.data.toList 32 = T.data.toList := by rw [hT, isSp_eq]; rfl
  rw [e1]
  exact ⟨rfl, rfl⟩
theorem trimRSp_any (X T : ByteArray) (hT : T.data.toList = dropEnd isSp X.data.toList) (w : World) (hX : X.size ≤ 1000000000) :
    Calls Tryd.prog 52 #[.string X, .string ⟨#[32]⟩] w fun e w' => e = .returned (.string T) ∧ w' = w := by
  refine (Tryd.strings_TrimRight_one X 32 (by decide) w (by omega)).mono ?_
  rintro e w' ⟨rfl, rfl⟩
  have e1 : Lib.trimRightB X.data.toList 32 = T.data.toList := by rw [hT, isSp_eq]; rfl
  rw [e1]
  exact ⟨rfl, rfl⟩

theorem pre_byte (d : UInt8) (l : List UInt8) : Lib.hasPrefix l [d] = (l.head? == some d) := by
  cases l with
  | nil => rfl
  | cons a l => simp [Lib.hasPrefix, List.isPrefixOf, Bool.beq_comm]

theorem litePre_no (d : UInt8) (s : ByteArray) (w : World) (h : s.data.toList.head? ≠ some d) :
    Calls Tryd.prog 200 #[.string s, .string ⟨#[d]⟩] w fun e w' => e = .returned (.tuple #[.string s, .bool false]) ∧ w' = w := by
  have C := Tryd.stringslite_HasPrefix s ⟨#[d]⟩ w
  rw [show (ByteArray.mk #[d]).data.toList = [d] from rfl, pre_byte, show (s.data.toList.head? == some d) = false from by rw [beq_eq_false_iff_ne]; exact h] at C
  have HC : Hid (Calls Tryd.prog 150 #[.string s, .string ⟨#[d]⟩] w fun e w' => e = .returned (.bool false) ∧ w' = w) := C
  clear C h
  go_enter Tryd.func200, Tryd.ntmps200
  go_wp2_with fail
  refine HC.out.mono ?_
  rintro e w' ⟨rfl, hw'⟩
  have hw'' := hw'.symm
  subst hw''
  clear HC
  go_wp2
  go_ret2
  exact ⟨rfl, rfl⟩
theorem litePre_yes (d : UInt8) (s t : ByteArray) (w : World) (hs : s.size ≤ 1000000000) (h : s.data.toList = d :: t.data.toList) :
    Calls Tryd.prog 200 #[.string s, .string ⟨#[d]⟩] w fun e w' => e = .returned (.tuple #[.string t, .bool true]) ∧ w' = w := by
  have C := Tryd.stringslite_HasPrefix s ⟨#[d]⟩ w
  rw [show (ByteArray.mk #[d]).data.toList = [d] from rfl, pre_byte, show (s.data.toList.head? == some d) = true from by rw [h]; simp] at C
  have HC : Hid (Calls Tryd.prog 150 #[.string s, .string ⟨#[d]⟩] w fun e w' => e = .returned (.bool true) ∧ w' = w) := C
  have h1 : s.size = t.size + 1 := by rw [Lib.size_eq, h, Lib.size_eq]; rfl
  have h2 : s.extract 1 s.size = t := by
    apply ba_inj
    rw [Lib.extract_data, h]
    simp only [List.drop_succ_cons, List.drop_zero]
    exact List.take_of_length_le (by rw [← Lib.size_eq]; omega)
  have h3 : (1 : Int) ≤ (s.size : Int) := by omega
  have h3' : 1 ≤ s.size := by omega
  clear C h h1
  go_enter Tryd.func200, Tryd.ntmps200
  go_wp2_with fail
  refine HC.out.mono ?_
  rintro e w' ⟨rfl, hw'⟩
  have hw'' := hw'.symm
  subst hw''
  clear HC
  go_wp2
  go_ret2
  exact ⟨rfl, rfl⟩
theorem cutPre_no (d : UInt8) (s : ByteArray) (w : World) (h : s.data.toList.head? ≠ some d) :
    Calls Tryd.prog 180 #[.string s, .string ⟨#[d]⟩] w fun e w' => e = .returned (.tuple #[.string s, .bool false]) ∧ w' = w := by
  have HC : Hid (Calls Tryd.prog 200 #[.string s, .string ⟨#[d]⟩] w fun e w' => e = .returned (.tuple #[.string s, .bool false]) ∧ w' = w) := litePre_no d s w h
  clear h
  go_enter Tryd.func180, Tryd.ntmps180
  go_wp2_with fail
  refine HC.out.mono ?_
  rintro e w' ⟨rfl, hw'⟩
  have hw'' := hw'.symm
  subst hw''
  clear HC
  go_wp2
  go_ret2
  exact ⟨rfl, rfl⟩
theorem cutPre_yes (d : UInt8) (s t : ByteArray) (w : World) (hs : s.size ≤ 1000000000) (h : s.data.toList = d :: t.data.toList) :
    Calls Tryd.prog 180 #[.string s, .string ⟨#[d]⟩] w fun e w' => e = .returned (.tuple #[.string t, .bool true]) ∧ w' = w := by
  have HC : Hid (Calls Tryd.prog 200 #[.string s, .string ⟨#[d]⟩] w fun e w' => e = .returned (.tuple #[.string t, .bool true]) ∧ w' = w) := litePre_yes d s t w hs h
  clear h
  go_enter Tryd.func180, Tryd.ntmps180
  go_wp2_with fail
  refine HC.out.mono ?_
  rintro e w' ⟨rfl, hw'⟩
  have hw'' := hw'.symm
  subst hw''
  clear HC
  go_wp2
  go_ret2
  exact ⟨rfl, rfl⟩
end Go.Proofs.YtehiaenicfmpbaaDoor

/- The reference's between, IsToken, IsValue: what the plain functions say; the world is as it was. Condition: the text is no longer than a text can be. -/
namespace Go.Proofs.YtehiaenicfmpbaaDoor
open Go.RowKit

set_option maxHeartbeats 1000000 in
theorem between_any (s but : ByteArray) (bl : List UInt8) (hbut : but.data.toList = bl) (lo hi : Nat) (loi hii : Int) (e1 : loi = (lo : Int)) (e2 : hii = (hi : Int)) (w : World) (hs : s.size ≤ 1000000) :
    Calls Tryd.prog 101 #[.string s, .int .u8 loi, .int .u8 hii, .string but] w fun e w' => e = .returned (.bool (betw lo hi bl s.data.toList)) ∧ w' = w := by
  subst e1 e2
  go_enter Tryd.func101, Tryd.ntmps101
  go_wp2
  go_loop [12] (fun iv => ∃ k : Nat, k ≤ s.size ∧ iv = .int .i64 k ∧ Hid (betw lo hi bl (s.data.toList.drop k) = betw lo hi bl s.data.toList)) (fun iv => s.size - (intOf iv).toNat)
  case atStart => exact ⟨0, Nat.zero_le _, rfl, rfl⟩
  case round =>
    obtain ⟨k, hk, rfl, HK⟩ := hrel
    by_cases hlt : k < s.size
    · have hdr : Hid (betw lo hi bl (s.data.toList.drop k) = (inB lo hi bl s[k] && betw lo hi bl (s.data.toList.drop (k + 1)))) := by unfold Hid; rw [dropB s k hlt, betw_cons]
      by_cases h1 : s[k].toNat < lo
      · have HN : Hid (betw lo hi bl s.data.toList = false) := by
          unfold Hid
          rw [← HK.out, hdr.out, show inB lo hi bl s[k] = false from by simp [inB]; omega]; rfl
        have h1' : (s[k].toNat : Int) < (lo : Int) := by omega
        clear hdr HK
        go_wp2
        go_ret
        exact ⟨by rw [HN.out]; rfl, rfl⟩
      · have h1' : decide ((s[k].toNat : Int) < (lo : Int)) = false := by simp; omega
        by_cases h2 : hi < s[k].toNat
        · have HN : Hid (betw lo hi bl s.data.toList = false) := by
            unfold Hid
            rw [← HK.out, hdr.out, show inB lo hi bl s[k] = false from by simp [inB]; omega]; rfl
          have h2' : (hi : Int) < (s[k].toNat : Int) := by omega
          clear hdr HK
          go_wp2
          go_ret
          exact ⟨by rw [HN.out]; rfl, rfl⟩
        · have h2' : decide ((hi : Int) < (s[k].toNat : Int)) = false := by simp; omega
          cases h3 : bl.contains s[k]
          · have HN : Hid (betw lo hi bl (s.data.toList.drop (k + 1)) = betw lo hi bl s.data.toList) := by
              unfold Hid
              rw [← HK.out, hdr.out, show inB lo hi bl s[k] = true from by simp only [inB, h3]; simp; omega]; rfl
            clear hdr HK
            go_wp2_with (go_at_call 100; refine (ix_any but bl hbut s[k] _ rfl _).mono ?_; rintro e w' ⟨i, rfl, hi9, hw'⟩; rw [h3] at hi9; have hw'' := hw'.symm; subst hw'')
            go_round
            case rel => exact ⟨k + 1, by omega, by go_num, HN⟩
            case measure => simp [intOf]; omega
          · have HN : Hid (betw lo hi bl s.data.toList = false) := by
              unfold Hid
              rw [← HK.out, hdr.out, show inB lo hi bl s[k] = false from by simp only [inB, h3]; simp]; rfl
            clear hdr HK
            go_wp2_with (go_at_call 100; refine (ix_any but bl hbut s[k] _ rfl _).mono ?_; rintro e w' ⟨i, rfl, hi9, hw'⟩; rw [h3] at hi9; have hw'' := hw'.symm; subst hw'')
            go_ret
            exact ⟨by rw [HN.out]; rfl, rfl⟩
    · obtain rfl : k = s.size := by omega
      have HN : Hid (betw lo hi bl s.data.toList = true) := by
        unfold Hid
        rw [← HK.out, List.drop_of_length_le (by rw [← Lib.size_eq]; exact Nat.le_refl _)]; rfl
      clear HK
      go_wp2
      go_ret
      exact ⟨by rw [HN.out]; rfl, rfl⟩

theorem token_any (s : ByteArray) (w : World) (hs : s.size ≤ maxLen) :
    Calls Tryd.prog 35 #[.string s] w fun e w' => e = .returned (.bool (tokenS s.data.toList)) ∧ w' = w := by
  unfold maxLen at hs
  have hle := Lib.size_eq s
  by_cases h1 : 1 ≤ s.size
  · have h1' : (1 : Int) ≤ (s.size : Int) := by omega
    by_cases h2 : s.size ≤ 30
    · have h2' : (s.size : Int) ≤ 30 := by omega
      have HN : Hid (tokenS s.data.toList = betw 33 126 specials s.data.toList) := by unfold Hid tokenS; rw [← hle]; simp [h1, h2]
      clear hle
      go_enter Tryd.func35, Tryd.ntmps35
      go_wp2_with (go_at_call 101; refine (between_any s _ specials rfl 33 126 _ _ rfl rfl _ (by omega)).mono ?_; rintro e w' ⟨rfl, hw'⟩; have hw'' := hw'.symm; subst hw'')
      go_ret
      exact ⟨by rw [HN.out]; rfl, rfl⟩
    · have h2' : decide ((s.size : Int) ≤ 30) = false := by simp; omega
      have HN : Hid (tokenS s.data.toList = false) := by unfold Hid tokenS; rw [← hle]; simp; omega
      clear hle
      go_enter Tryd.func35, Tryd.ntmps35
      go_wp2
      go_ret
      exact ⟨by rw [HN.out]; rfl, rfl⟩
  · have h1' : decide ((1 : Int) ≤ (s.size : Int)) = false := by simp; omega
    have HN : Hid (tokenS s.data.toList = false) := by unfold Hid tokenS; rw [← hle]; simp; omega
    clear hle
    go_enter Tryd.func35, Tryd.ntmps35
    go_wp2
    go_ret
    exact ⟨by rw [HN.out]; rfl, rfl⟩

theorem hasPrefix_sp (l : List UInt8) : Lib.hasPrefix l [32] = (l.head? == some 32) := by
  cases l with
  | nil => rfl
  | cons a l => simp [Lib.hasPrefix, List.isPrefixOf, Bool.beq_comm]
theorem hasSuffix_sp (l : List UInt8) : Lib.hasSuffix l [32] = (l.getLast? == some 32) := by
  rcases List.eq_nil_or_concat l with rfl | ⟨x, d, rfl⟩
  · simp [Lib.hasSuffix]
  · rw [List.concat_eq_append, Lib.hasSuffix, Bool.eq_iff_iff]
    simp only [List.isSuffixOf_iff_suffix, beq_iff_eq, List.getLast?_append, List.getLast?_singleton, Option.some_or]
    constructor
    · rintro ⟨t, ht⟩
      have := congrArg List.getLast? ht
      simp at this
      rw [this]
    · intro h
      obtain rfl := Option.some.inj h
      exact ⟨x, rfl⟩

theorem value_any (s : ByteArray) (w : World) (hs : s.size ≤ maxLen) :
    Calls Tryd.prog 37 #[.string s] w fun e w' => e = .returned (.bool (valueS s.data.toList)) ∧ w' = w := by
  unfold maxLen at hs
  have hle := Lib.size_eq s
  by_cases h1 : s.size ≤ 900
  · have h1' : (s.size : Int) ≤ 900 := by omega
    have HN : Hid (valueS s.data.toList = (betw 32 126 [] s.data.toList && !Lib.hasPrefix s.data.toList [32] && !Lib.hasSuffix s.data.toList [32])) := by unfold Hid valueS; rw [← hle, hasPrefix_sp, hasSuffix_sp]; simp [h1]
    clear hle
    have C1 := Tryd.strings_HasPrefix s ⟨#[32]⟩ w
    have C2 := Tryd.strings_HasSuffix s ⟨#[32]⟩ w (by omega)
    rw [show (ByteArray.mk #[32]).data.toList = [32] from rfl] at C1 C2
    obtain ⟨B1, hB1⟩ : ∃ b, betw 32 126 [] s.data.toList = b := ⟨_, rfl⟩
    obtain ⟨B2, hB2⟩ : ∃ b, Lib.hasPrefix s.data.toList [32] = b := ⟨_, rfl⟩
    obtain ⟨B3, hB3⟩ : ∃ b, Lib.hasSuffix s.data.toList [32] = b := ⟨_, rfl⟩
    have C0 := between_any s ⟨#[]⟩ [] rfl 32 126 _ _ rfl rfl w (by omega)
    rw [hB1] at C0 HN
    rw [hB2] at C1 HN
    rw [hB3] at C2 HN
    clear hB1 hB2 hB3
    have K0 : Hid (Calls Tryd.prog 101 #[.string s, .int .u8 32, .int .u8 126, .string ⟨#[]⟩] w fun e w' => e = .returned (.bool B1) ∧ w' = w) := C0
    have K1 : Hid (Calls Tryd.prog 103 #[.string s, .string ⟨#[32]⟩] w fun e w' => e = .returned (.bool B2) ∧ w' = w) := C1
    have K2 : Hid (Calls Tryd.prog 84 #[.string s, .string ⟨#[32]⟩] w fun e w' => e = .returned (.bool B3) ∧ w' = w) := C2
    clear C0 C1 C2
    cases B1 <;> cases B2 <;> cases B3 <;>
    (go_enter Tryd.func37, Tryd.ntmps37
     go_wp2_with (first | (go_at_call 101; refine K0.out.mono ?_; rintro e w' ⟨rfl, hw'⟩; have hw'' := hw'.symm; subst hw'') | (go_at_call 103; refine K1.out.mono ?_; rintro e w' ⟨rfl, hw'⟩; have hw'' := hw'.symm; subst hw'') | (go_at_call 84; refine K2.out.mono ?_; rintro e w' ⟨rfl, hw'⟩; have hw'' := hw'.symm; subst hw''))
     go_ret
     exact ⟨by rw [HN.out]; rfl, rfl⟩)
  · have h1' : decide ((s.size : Int) ≤ 900) = false := by simp; omega
    have HN : Hid (valueS s.data.toList = false) := by unfold Hid valueS; rw [← hle]; simp; omega
    clear hle
    go_enter Tryd.func37, Tryd.ntmps37
    go_wp2
    go_ret
    exact ⟨by rw [HN.out]; rfl, rfl⟩
end Go.Proofs.YtehiaenicfmpbaaDoor

/- header.every, header.Token, header.Value: what the plain functions say; nothing that was there is changed. Condition: the text is no longer than a text can be. -/
namespace Go.Proofs.YtehiaenicfmpbaaDoor
open Go.RowKit

theorem valc_any (c : UInt8) (w : World) : Calls Tryd.prog 102 #[.int .u8 (c.toNat : Int)] w fun e w' => e = .returned (.bool (inB 32 126 [] c)) ∧ w' = w := by
  by_cases h1 : 32 ≤ c.toNat
  · have h1' : (32 : Int) ≤ (c.toNat : Int) := by omega
    by_cases h2 : c.toNat ≤ 126
    · have h2' : (c.toNat : Int) ≤ 126 := by omega
      have HN : Hid (inB 32 126 [] c = true) := by unfold Hid inB; simp only [h1, h2]; simp
      go_enter Tryd.func102, Tryd.ntmps102
      go_wp2
      go_ret
      exact ⟨by rw [HN.out]; rfl, rfl⟩
    · have h2' : decide ((c.toNat : Int) ≤ 126) = false := by simp; omega
      have HN : Hid (inB 32 126 [] c = false) := by unfold Hid inB; simp only [h2]; simp
      go_enter Tryd.func102, Tryd.ntmps102
      go_wp2
      go_ret
      exact ⟨by rw [HN.out]; rfl, rfl⟩
  · have h1' : decide ((32 : Int) ≤ (c.toNat : Int)) = false := by simp; omega
    have HN : Hid (inB 32 126 [] c = false) := by unfold Hid inB; simp only [h1]; simp
    go_enter Tryd.func102, Tryd.ntmps102
    go_wp2
    go_ret
    exact ⟨by rw [HN.out]; rfl, rfl⟩

set_option maxHeartbeats 1000000 in
theorem every_val (s : ByteArray) (w : World) (hs : s.size ≤ 1000000) :
    Calls Tryd.prog 98 #[.string s, .func (Fn.func 102) #[] #[]] w fun e w' => e = .returned (.bool (allB valB s.data.toList)) ∧ w' = w := by
  go_enter Tryd.func98, Tryd.ntmps98
  go_wp2
  go_loop [8] (fun iv => ∃ k : Nat, k ≤ s.size ∧ iv = .int .i64 k ∧ Hid (allB valB (s.data.toList.drop k) = allB valB s.data.toList)) (fun iv => s.size - (intOf iv).toNat)
  case atStart => exact ⟨0, Nat.zero_le _, rfl, rfl⟩
  case round =>
    obtain ⟨k, hk, rfl, HK⟩ := hrel
    by_cases hlt : k < s.size
    · have hdr : Hid (allB valB (s.data.toList.drop k) = (valB s[k] && allB valB (s.data.toList.drop (k + 1)))) := by unfold Hid; rw [dropB s k hlt, allB_cons]
      cases hp : valB s[k]
      · have HN : Hid (allB valB s.data.toList = false) := by unfold Hid; rw [← HK.out, hdr.out, hp]; rfl
        have C : Hid (∀ w, Calls Tryd.prog 102 #[.int .u8 (s[k].toNat : Int)] w fun e w' => e = .returned (.bool false) ∧ w' = w) := by intro w; rw [← hp]; exact valc_any _ w
        clear hdr HK hp
        go_wp2_with fail
        refine (C.out _).mono ?_
        rintro e w' ⟨rfl, hw'⟩
        have hw'' := hw'.symm
        subst hw''
        go_wp2
        go_ret
        exact ⟨by rw [HN.out]; rfl, rfl⟩
      · have HN : Hid (allB valB (s.data.toList.drop (k + 1)) = allB valB s.data.toList) := by unfold Hid; rw [← HK.out, hdr.out, hp]; rfl
        have C : Hid (∀ w, Calls Tryd.prog 102 #[.int .u8 (s[k].toNat : Int)] w fun e w' => e = .returned (.bool true) ∧ w' = w) := by intro w; rw [← hp]; exact valc_any _ w
        clear hdr HK hp
        go_wp2_with fail
        refine (C.out _).mono ?_
        rintro e w' ⟨rfl, hw'⟩
        have hw'' := hw'.symm
        subst hw''
        go_wp2
        go_round
        case rel => exact ⟨k + 1, by omega, by go_num, HN⟩
        case measure => simp [intOf]; omega
    · obtain rfl : k = s.size := by omega
      have HN : Hid (allB valB s.data.toList = true) := by
        unfold Hid
        rw [← HK.out, List.drop_of_length_le (by rw [← Lib.size_eq]; exact Nat.le_refl _)]; rfl
      clear HK
      go_wp2
      go_ret
      exact ⟨by rw [HN.out]; rfl, rfl⟩

theorem trimSp_iff (l : List UInt8) : trimBy isSp l = l ↔ l.head? ≠ some 32 ∧ l.getLast? ≠ some 32 := by
  constructor
  · intro h
    have hl : (trimBy isSp l).length = l.length := by rw [h]
    have h2 : (dropEnd isSp l).length = l.length := by
      have a := dropEnd_length isSp l
      have b := (List.dropWhile_sublist isSp (l := dropEnd isSp l)).length_le
      have c : (trimBy isSp l).length = ((dropEnd isSp l).dropWhile isSp).length := rfl
      omega
    have hd : dropEnd isSp l = l := by
      unfold dropEnd at h2 ⊢
      have s := (List.dropWhile_sublist isSp (l := l.reverse)).eq_of_length (by simpa using h2)
      rw [s, List.reverse_reverse]
    constructor
    · intro hh
      cases l with
      | nil => cases hh
      | cons a l =>
        rw [List.head?_cons] at hh
        obtain rfl := Option.some.inj hh
        rw [trimBy, hd, List.dropWhile_cons, if_pos (by rfl)] at hl
        have := (List.dropWhile_sublist isSp (l := l)).length_le
        simp at hl; omega
    · intro hh
      rcases List.eq_nil_or_concat l with rfl | ⟨x, d, rfl⟩
      · cases hh
      · rw [List.concat_eq_append] at hh hd h2
        simp at hh
        subst hh
        rw [dropEnd_yes isSp x 32 rfl] at h2
        have := dropEnd_length isSp x
        simp at h2; omega
  · rintro ⟨h1, h2⟩
    refine trimBy_self isSp l (fun c hc => ?_) (fun c hc => ?_)
    · rw [isSp_eq]; show (c == 32) = false; rw [beq_eq_false_iff_ne]; rintro rfl; exact h1 hc
    · rw [isSp_eq]; show (c == 32) = false; rw [beq_eq_false_iff_ne]; rintro rfl; exact h2 hc

/-- header.Value. -/
theorem hval_any (s : ByteArray) (w : World) (hs : s.size ≤ maxLen) :
    Calls Tryd.prog 36 #[.string s] w fun e w' => e = .returned (.bool (valueS s.data.toList)) ∧ Below w.heap.size w w' := by
  unfold maxLen at hs
  have hle := Lib.size_eq s
  by_cases h1 : s.size ≤ 900
  · have h1' : (s.size : Int) ≤ 900 := by omega
    obtain ⟨T, hT, hTs⟩ := mk_trim isSp s.data.toList
    have C1 : Hid (∀ w', Calls Tryd.prog 85 #[.string s, .string ⟨#[32]⟩] w' fun e w'' => e = .returned (.string T) ∧ Below w'.heap.size w' w'') := fun w' => trimSp_any s T hT w' (by omega)
    by_cases h2 : T = s
    · have HT : Hid (valueS s.data.toList = allB valB s.data.toList) := by
        rw [h2] at hT
        have := (trimSp_iff s.data.toList).1 hT.symm
        unfold Hid valueS betw allB valB
        have a1 : (s.data.toList.head? == some 32) = false := by rw [beq_eq_false_iff_ne]; exact this.1
        have a2 : (s.data.toList.getLast? == some 32) = false := by rw [beq_eq_false_iff_ne]; exact this.2
        rw [← hle, a1, a2, decide_eq_true h1]
        simp only [Bool.true_and, Bool.not_false, Bool.and_true]
      subst h2
      clear hT hTs hle
      go_enter Tryd.func36, Tryd.ntmps36
      go_wp2_with fail
      refine (C1.out _).mono ?_
      rintro e w1 ⟨rfl, hb⟩
      go_wp2_with fail
      refine (every_val T _ (by omega)).mono ?_
      rintro e w' ⟨rfl, hw'⟩
      have hw'' := hw'.symm
      subst hw''
      go_wp2
      go_ret
      exact ⟨by rw [HT.out]; rfl, hb⟩
    · have HT : Hid (valueS s.data.toList = false) := by
        have : ¬ trimBy isSp s.data.toList = s.data.toList := fun e => h2 (by
          apply ByteArray.ext; apply Array.toList_inj.1; rw [hT, e])
        rw [trimSp_iff] at this
        unfold Hid valueS
        rw [← Bool.not_eq_true]
        intro h
        simp only [Bool.and_eq_true, Bool.not_eq_true', beq_eq_false_iff_ne] at h
        exact this ⟨h.1.2, h.2⟩
      have hbe : (T.toList == s.toList) = false := by
        rw [beq_eq_false_iff_ne, ByteArray.toList_eq, ByteArray.toList_eq]
        exact fun e => h2 (ByteArray.ext (Array.toList_inj.1 e))
      clear hT hTs hle
      go_enter Tryd.func36, Tryd.ntmps36
      go_wp2_with fail
      refine (C1.out _).mono ?_
      rintro e w1 ⟨rfl, hb⟩
      go_wp2
      go_ret
      exact ⟨by rw [HT.out]; rfl, hb⟩
  · have h1' : decide ((s.size : Int) ≤ 900) = false := by simp; omega
    have HN : Hid (valueS s.data.toList = false) := by unfold Hid valueS; rw [← hle]; simp; omega
    clear hle
    go_enter Tryd.func36, Tryd.ntmps36
    go_wp2
    go_ret
    exact ⟨by rw [HN.out]; rfl, Below.refl _ _⟩
end Go.Proofs.YtehiaenicfmpbaaDoor

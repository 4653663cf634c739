/- strings.Cut at one byte, strings.TrimSuffix of a return, strings.CutPrefix of a quote, TrimLeft, TrimRight of blanks: what they answer; nothing that was there is changed. -/
import Derived.Test.YtehiaenicfmpbaaDoorHLib
import Derived.Test.YtehiaenicfmpbaaDoorFIndex
namespace Go.Proofs.YtehiaenicfmpbaaDoor
open Go.RowKit

theorem trimCR_any (X T : ByteArray) (hT : T.data.toList = noCR X.data.toList) (w : World) (hX : X.size ≤ 1000000000) :
    Calls Tryd.prog 91 #[.string X, .string ⟨#[13]⟩] w fun e w' => e = .returned (.string T) ∧ w' = w := by
  refine (Tryd.strings_TrimSuffix X ⟨#[13]⟩ w (by omega)).mono ?_
  rintro e w' ⟨rfl, rfl⟩
  refine ⟨?_, rfl⟩
  have e1 : Lib.trimSuffix X.data.toList [13] = T.data.toList := by
    rw [hT]
    unfold Lib.trimSuffix noCR
    rcases List.eq_nil_or_concat X.data.toList with h | ⟨x, d, h⟩
    · rw [h]; rfl
    · rw [h, List.concat_eq_append]
      by_cases hd : d = 13
      · subst hd
        simp [Lib.hasSuffix]
      · have h2 : Lib.hasSuffix (x ++ [d]) [13] = false := by
          rw [← Bool.not_eq_true]
          intro hh
          unfold Lib.hasSuffix at hh
          rw [List.isSuffixOf_iff_suffix] at hh
          obtain ⟨t, ht⟩ := hh
          have := congrArg List.getLast? ht
          simp at this
          exact hd this.symm
        simp [h2, hd]
  rw [show (ByteArray.mk #[13]).data.toList = [13] from rfl, e1]

theorem trimLSp_any (X T : ByteArray) (hT : T.data.toList = X.data.toList.dropWhile isSp) (w : World) :
    Calls Tryd.prog 146 #[.string X, .string ⟨#[32]⟩] w fun e w' => e = .returned (.string T) ∧ w' = w := by
  refine (Tryd.strings_TrimLeft_one X 32 (by decide) w).mono ?_
  rintro e w' ⟨rfl, rfl⟩
  have e1 : Lib.trimLeftB X.data.toList 32 = T.data.toList := by rw [hT, isSp_eq]; rfl
  rw [e1]
  exact ⟨rfl, rfl⟩
theorem trimRSp_any (X T : ByteArray) (hT : T.data.toList = dropEnd isSp X.data.toList) (w : World) (hX : X.size ≤ 1000000000) :
    Calls Tryd.prog 52 #[.string X, .string ⟨#[32]⟩] w fun e w' => e = .returned (.string T) ∧ w' = w := by
  refine (Tryd.strings_TrimRight_one X 32 (by decide) w (by omega)).mono ?_
  rintro e w' ⟨rfl, rfl⟩
  have e1 : Lib.trimRightB X.data.toList 32 = T.data.toList := by rw [hT, isSp_eq]; rfl
  rw [e1]
  exact ⟨rfl, rfl⟩

theorem pre_byte (d : UInt8) (l : List UInt8) : Lib.hasPrefix l [d] = (l.head? == some d) := by
  cases l with
  | nil => rfl
  | cons a l => simp [Lib.hasPrefix, List.isPrefixOf, Bool.beq_comm]

theorem litePre_no (d : UInt8) (s : ByteArray) (w : World) (h : s.data.toList.head? ≠ some d) :
    Calls Tryd.prog 200 #[.string s, .string ⟨#[d]⟩] w fun e w' => e = .returned (.tuple #[.string s, .bool false]) ∧ w' = w := by
  have C := Tryd.stringslite_HasPrefix s ⟨#[d]⟩ w
  rw [show (ByteArray.mk #[d]).data.toList = [d] from rfl, pre_byte, show (s.data.toList.head? == some d) = false from by rw [beq_eq_false_iff_ne]; exact h] at C
  have HC : Hid (Calls Tryd.prog 150 #[.string s, .string ⟨#[d]⟩] w fun e w' => e = .returned (.bool false) ∧ w' = w) := C
  clear C h
  go_enter Tryd.func200, Tryd.ntmps200
  go_wp2_with fail
  refine HC.out.mono ?_
  rintro e w' ⟨rfl, hw'⟩
  have hw'' := hw'.symm
  subst hw''
  clear HC
  go_wp2
  go_ret2
  exact ⟨rfl, rfl⟩
theorem litePre_yes (d : UInt8) (s t : ByteArray) (w : World) (hs : s.size ≤ 1000000000) (h : s.data.toList = d :: t.data.toList) :
    Calls Tryd.prog 200 #[.string s, .string ⟨#[d]⟩] w fun e w' => e = .returned (.tuple #[.string t, .bool true]) ∧ w' = w := by
  have C := Tryd.stringslite_HasPrefix s ⟨#[d]⟩ w
  rw [show (ByteArray.mk #[d]).data.toList = [d] from rfl, pre_byte, show (s.data.toList.head? == some d) = true from by rw [h]; simp] at C
  have HC : Hid (Calls Tryd.prog 150 #[.string s, .string ⟨#[d]⟩] w fun e w' => e = .returned (.bool true) ∧ w' = w) := C
  have h1 : s.size = t.size + 1 := by rw [Lib.size_eq, h, Lib.size_eq]; rfl
  have h2 : s.extract 1 s.size = t := by
    apply ba_inj
    rw [Lib.extract_data, h]
    simp only [List.drop_succ_cons, List.drop_zero]
    exact List.take_of_length_le (by rw [← Lib.size_eq]; omega)
  have h3 : (1 : Int) ≤ (s.size : Int) := by omega
  have h3' : 1 ≤ s.size := by omega
  clear C h h1
  go_enter Tryd.func200, Tryd.ntmps200
  go_wp2_with fail
  refine HC.out.mono ?_
  rintro e w' ⟨rfl, hw'⟩
  have hw'' := hw'.symm
  subst hw''
  clear HC
  go_wp2
  go_ret2
  exact ⟨rfl, rfl⟩
theorem cutPre_no (d : UInt8) (s : ByteArray) (w : World) (h : s.data.toList.head? ≠ some d) :
    Calls Tryd.prog 180 #[.string s, .string ⟨#[d]⟩] w fun e w' => e = .returned (.tuple #[.string s, .bool false]) ∧ w' = w := by
  have HC : Hid (Calls Tryd.prog 200 #[.string s, .string ⟨#[d]⟩] w fun e w' => e = .returned (.tuple #[.string s, .bool false]) ∧ w' = w) := litePre_no d s w h
  clear h
  go_enter Tryd.func180, Tryd.ntmps180
  go_wp2_with fail
  refine HC.out.mono ?_
  rintro e w' ⟨rfl, hw'⟩
  have hw'' := hw'.symm
  subst hw''
  clear HC
  go_wp2
  go_ret2
  exact ⟨rfl, rfl⟩
theorem cutPre_yes (d : UInt8) (s t : ByteArray) (w : World) (hs : s.size ≤ 1000000000) (h : s.data.toList = d :: t.data.toList) :
    Calls Tryd.prog 180 #[.string s, .string ⟨#[d]⟩] w fun e w' => e = .returned (.tuple #[.string t, .bool true]) ∧ w' = w := by
  have HC : Hid (Calls Tryd.prog 200 #[.string s, .string ⟨#[d]⟩] w fun e w' => e = .returned (.tuple #[.string t, .bool true]) ∧ w' = w) := litePre_yes d s t w hs h
  clear h
  go_enter Tryd.func180, Tryd.ntmps180
  go_wp2_with fail
  refine HC.out.mono ?_
  rintro e w' ⟨rfl, hw'⟩
  have hw'' := hw'.symm
  subst hw''
  clear HC
  go_wp2
  go_ret2
  exact ⟨rfl, rfl⟩
end Go.Proofs.YtehiaenicfmpbaaDoor

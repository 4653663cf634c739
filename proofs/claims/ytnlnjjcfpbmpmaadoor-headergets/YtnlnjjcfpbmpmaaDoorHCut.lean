/- strings.Cut at one byte, strings.TrimSuffix of a return, strings.CutPrefix of a quote, TrimLeft, TrimRight of blanks: what they answer; nothing that was there is changed. -/
import Derived.Test.YtnlnjjcfpbmpmaaDoorHLib
import Derived.Test.YtnlnjjcfpbmpmaaDoorFIndex
namespace Go.Proofs.YtnlnjjcfpbmpmaaDoor
open Go.RowKit

/-- A text parted at a byte. -/
theorem ba_cut (d : UInt8) (X : ByteArray) (n v : List UInt8) (h : X.data.toList = n ++ d :: v) : ∃ NM VL : ByteArray, X.extract 0 n.length = NM ∧ X.extract (n.length + 1) X.size = VL ∧ NM.data.toList = n ∧ VL.data.toList = v ∧ X.size = n.length + 1 + v.length := by
  have hl : X.size = n.length + 1 + v.length := by rw [Lib.size_eq, h]; simp; omega
  have e1 : (X.extract 0 n.length).data.toList = n := by rw [Lib.extract_data, h]; simp
  have e2 : (X.extract (n.length + 1) X.size).data.toList = v := by
    rw [Lib.extract_data, h, hl, show n.length + 1 + v.length - (n.length + 1) = v.length from by omega, ← List.drop_drop]
    simp
  exact ⟨_, _, rfl, rfl, e1, e2, hl⟩

theorem ba_inj {a b : ByteArray} (h : a.data.toList = b.data.toList) : a = b := ByteArray.ext (Array.toList_inj.1 h)

theorem lite_none (d : UInt8) (s : ByteArray) (w : World) (h : cutB d s.data.toList = none) :
    Calls Tryd.prog 107 #[.string s, .string ⟨#[d]⟩] w fun e w' => e = .returned (.tuple #[.string s, .string ⟨#[]⟩, .bool false]) ∧ w' = w := by
  have C := Tryd.stringslite_Index_one s d w
  rw [indexByte_where, whereB_none h] at C
  clear h
  have HC : Hid (Calls Tryd.prog 121 #[.string s, .string ⟨#[d]⟩] w fun e w' => e = .returned (.int .i64 (-1)) ∧ w' = w) := C
  clear C
  go_enter Tryd.func107, Tryd.ntmps107
  go_wp2_with fail
  refine HC.out.mono ?_
  rintro e w' ⟨rfl, hw'⟩
  have hw'' := hw'.symm
  subst hw''
  clear HC
  go_wp2
  go_ret3
  exact ⟨rfl, rfl⟩

set_option maxHeartbeats 1000000 in
theorem lite_some (d : UInt8) (s a r : ByteArray) (w : World) (hs : s.size ≤ 1000000000) (h : cutB d s.data.toList = some (a.data.toList, r.data.toList)) :
    Calls Tryd.prog 107 #[.string s, .string ⟨#[d]⟩] w fun e w' => e = .returned (.tuple #[.string a, .string r, .bool true]) ∧ Below w.heap.size w w' := by
  have C := Tryd.stringslite_Index_one s d w
  rw [indexByte_where, whereB_some h] at C
  simp only at C
  obtain ⟨A, R, h1, h2, h3, h4, h5⟩ := ba_cut d s _ _ (cutB_some d _ _ _ h).1
  have hA := ba_inj h3
  have hR := ba_inj h4
  subst hA hR
  obtain ⟨I, hI⟩ : ∃ I, I = A.data.toList.length := ⟨_, rfl⟩
  rw [← hI] at C h1 h2 h5
  have hI1 : (I : Int) < (s.size : Int) := by omega
  have hI2 : (I : Int) + 1 ≤ (s.size : Int) := by omega
  have HC : Hid (Calls Tryd.prog 121 #[.string s, .string ⟨#[d]⟩] w fun e w' => e = .returned (.int .i64 (I : Int)) ∧ w' = w) := C
  clear C h h3 h4 h5 hI
  go_enter Tryd.func107, Tryd.ntmps107
  go_wp2_with fail
  refine HC.out.mono ?_
  rintro e w' ⟨rfl, hw'⟩
  have hw'' := hw'.symm
  subst hw''
  clear HC
  go_wp2
  go_region
  go_wp2
  go_ret3
  exact ⟨rfl, (Below.refl _ _).drew⟩

theorem cut_none (d : UInt8) (s : ByteArray) (w : World) (h : cutB d s.data.toList = none) :
    Calls Tryd.prog 62 #[.string s, .string ⟨#[d]⟩] w fun e w' => e = .returned (.tuple #[.string s, .string ⟨#[]⟩, .bool false]) ∧ Below w.heap.size w w' := by
  have HC : Hid (Calls Tryd.prog 107 #[.string s, .string ⟨#[d]⟩] w fun e w' => e = .returned (.tuple #[.string s, .string ⟨#[]⟩, .bool false]) ∧ w' = w) := lite_none d s w h
  clear h
  go_enter Tryd.func62, Tryd.ntmps62
  go_wp2_with fail
  refine HC.out.mono ?_
  rintro e w' ⟨rfl, hw'⟩
  have hw'' := hw'.symm
  subst hw''
  clear HC
  go_wp2
  go_ret3
  exact ⟨rfl, Below.refl _ _⟩
theorem cut_some (d : UInt8) (s a r : ByteArray) (w : World) (hs : s.size ≤ 1000000000) (h : cutB d s.data.toList = some (a.data.toList, r.data.toList)) :
    Calls Tryd.prog 62 #[.string s, .string ⟨#[d]⟩] w fun e w' => e = .returned (.tuple #[.string a, .string r, .bool true]) ∧ Below w.heap.size w w' := by
  have HC : Hid (Calls Tryd.prog 107 #[.string s, .string ⟨#[d]⟩] w fun e w' => e = .returned (.tuple #[.string a, .string r, .bool true]) ∧ Below w.heap.size w w') := lite_some d s a r w hs h
  clear h
  go_enter Tryd.func62, Tryd.ntmps62
  go_wp2_with fail
  refine HC.out.mono ?_
  rintro e w' ⟨rfl, hb⟩
  clear HC
  go_wp2
  go_ret3
  exact ⟨rfl, hb⟩

/-- What is ahead of, and behind, a byte, as texts. -/
theorem cut_parts {d : UInt8} {s : ByteArray} {x : List UInt8 × List UInt8} (h : cutB d s.data.toList = some x) : ∃ a r : ByteArray, x = (a.data.toList, r.data.toList) ∧ s.size = a.size + 1 + r.size := by
  refine ⟨⟨x.1.toArray⟩, ⟨x.2.toArray⟩, rfl, ?_⟩
  have e := (cutB_some d s.data.toList x.1 x.2 h).1
  rw [Lib.size_eq, e, Lib.size_eq, Lib.size_eq]
  simp only [List.length_append, List.length_cons]
  omega

theorem trimCR_any (X T : ByteArray) (hT : T.data.toList = noCR X.data.toList) (w : World) (hX : X.size ≤ 1000000000) :
    Calls Tryd.prog 73 #[.string X, .string ⟨#[13]⟩] w fun e w' => e = .returned (.string T) ∧ w' = w := by
  refine (Tryd.strings_TrimSuffix X ⟨#[13]⟩ w (by omega)).mono ?_
  rintro e w' ⟨rfl, rfl⟩
  refine ⟨?_, rfl⟩
  have e1 : Lib.trimSuffix X.data.toList [13] = T.data.toList := by
    rw [hT]
    unfold Lib.trimSuffix noCR
    rcases List.eq_nil_or_concat X.data.toList with h | ⟨x, d, h⟩
    · rw [h]; rfl
    · rw [h, List.concat_eq_append]
      by_cases hd : d = 13
      · subst hd
        simp [Lib.hasSuffix]
      · have h2 : Lib.hasSuffix (x ++ [d]) [13] = false := by
          rw [← Bool.not_eq_true]
          intro hh
          unfold Lib.hasSuffix at hh
          rw [List.isSuffixOf_iff_suffix] at hh
          obtain ⟨t, ht⟩ := hh
          have := congrArg List.getLast? ht
          simp at this
          exact hd this.symm
        simp [h2, hd]
  rw [show (ByteArray.mk #[13]).data.toList = [13] from rfl, e1]

theorem trimLSp_any (X T : ByteArray) (hT : T.data.toList = X.data.toList.dropWhile isSp) (w : World) :
    Calls Tryd.prog 120 #[.string X, .string ⟨#[32]⟩] w fun e w' => e = .returned (.string T) ∧ w' = w := by
  refine (Tryd.strings_TrimLeft_one X 32 (by decide) w).mono ?_
  rintro e w' ⟨rfl, rfl⟩
  have e1 : Lib.trimLeftB X.data.toList 32 = T.data.toList := by rw [hT, isSp_eq]; rfl
  rw [e1]
  exact ⟨rfl, rfl⟩
theorem trimRSp_any (X T : ByteArray) (hT : T.data.toList = dropEnd isSp X.data.toList) (w : World) (hX : X.size ≤ 1000000000) :
    Calls Tryd.prog 51 #[.string X, .string ⟨#[32]⟩] w fun e w' => e = .returned (.string T) ∧ w' = w := by
  refine (Tryd.strings_TrimRight_one X 32 (by decide) w (by omega)).mono ?_
  rintro e w' ⟨rfl, rfl⟩
  have e1 : Lib.trimRightB X.data.toList 32 = T.data.toList := by rw [hT, isSp_eq]; rfl
  rw [e1]
  exact ⟨rfl, rfl⟩

theorem pre_byte (d : UInt8) (l : List UInt8) : Lib.hasPrefix l [d] = (l.head? == some d) := by
  cases l with
  | nil => rfl
  | cons a l => simp [Lib.hasPrefix, List.isPrefixOf, Bool.beq_comm]

theorem litePre_no (d : UInt8) (s : ByteArray) (w : World) (h : s.data.toList.head? ≠ some d) :
    Calls Tryd.prog 169 #[.string s, .string ⟨#[d]⟩] w fun e w' => e = .returned (.tuple #[.string s, .bool false]) ∧ w' = w := by
  have C := Tryd.stringslite_HasPrefix s ⟨#[d]⟩ w
  rw [show (ByteArray.mk #[d]).data.toList = [d] from rfl, pre_byte, show (s.data.toList.head? == some d) = false from by rw [beq_eq_false_iff_ne]; exact h] at C
  have HC : Hid (Calls Tryd.prog 124 #[.string s, .string ⟨#[d]⟩] w fun e w' => e = .returned (.bool false) ∧ w' = w) := C
  clear C h
  go_enter Tryd.func169, Tryd.ntmps169
  go_wp2_with fail
  refine HC.out.mono ?_
  rintro e w' ⟨rfl, hw'⟩
  have hw'' := hw'.symm
  subst hw''
  clear HC
  go_wp2
  go_ret2
  exact ⟨rfl, rfl⟩
theorem litePre_yes (d : UInt8) (s t : ByteArray) (w : World) (hs : s.size ≤ 1000000000) (h : s.data.toList = d :: t.data.toList) :
    Calls Tryd.prog 169 #[.string s, .string ⟨#[d]⟩] w fun e w' => e = .returned (.tuple #[.string t, .bool true]) ∧ w' = w := by
  have C := Tryd.stringslite_HasPrefix s ⟨#[d]⟩ w
  rw [show (ByteArray.mk #[d]).data.toList = [d] from rfl, pre_byte, show (s.data.toList.head? == some d) = true from by rw [h]; simp] at C
  have HC : Hid (Calls Tryd.prog 124 #[.string s, .string ⟨#[d]⟩] w fun e w' => e = .returned (.bool true) ∧ w' = w) := C
  have h1 : s.size = t.size + 1 := by rw [Lib.size_eq, h, Lib.size_eq]; rfl
  have h2 : s.extract 1 s.size = t := by
    apply ba_inj
    rw [Lib.extract_data, h]
    simp only [List.drop_succ_cons, List.drop_zero]
    exact List.take_of_length_le (by rw [← Lib.size_eq]; omega)
  have h3 : (1 : Int) ≤ (s.size : Int) := by omega
  have h3' : 1 ≤ s.size := by omega
  clear C h h1
  go_enter Tryd.func169, Tryd.ntmps169
  go_wp2_with fail
  refine HC.out.mono ?_
  rintro e w' ⟨rfl, hw'⟩
  have hw'' := hw'.symm
  subst hw''
  clear HC
  go_wp2
  go_ret2
  exact ⟨rfl, rfl⟩
theorem cutPre_no (d : UInt8) (s : ByteArray) (w : World) (h : s.data.toList.head? ≠ some d) :
    Calls Tryd.prog 150 #[.string s, .string ⟨#[d]⟩] w fun e w' => e = .returned (.tuple #[.string s, .bool false]) ∧ w' = w := by
  have HC : Hid (Calls Tryd.prog 169 #[.string s, .string ⟨#[d]⟩] w fun e w' => e = .returned (.tuple #[.string s, .bool false]) ∧ w' = w) := litePre_no d s w h
  clear h
  go_enter Tryd.func150, Tryd.ntmps150
  go_wp2_with fail
  refine HC.out.mono ?_
  rintro e w' ⟨rfl, hw'⟩
  have hw'' := hw'.symm
  subst hw''
  clear HC
  go_wp2
  go_ret2
  exact ⟨rfl, rfl⟩
theorem cutPre_yes (d : UInt8) (s t : ByteArray) (w : World) (hs : s.size ≤ 1000000000) (h : s.data.toList = d :: t.data.toList) :
    Calls Tryd.prog 150 #[.string s, .string ⟨#[d]⟩] w fun e w' => e = .returned (.tuple #[.string t, .bool true]) ∧ w' = w := by
  have HC : Hid (Calls Tryd.prog 169 #[.string s, .string ⟨#[d]⟩] w fun e w' => e = .returned (.tuple #[.string t, .bool true]) ∧ w' = w) := litePre_yes d s t w hs h
  clear h
  go_enter Tryd.func150, Tryd.ntmps150
  go_wp2_with fail
  refine HC.out.mono ?_
  rintro e w' ⟨rfl, hw'⟩
  have hw'' := hw'.symm
  subst hw''
  clear HC
  go_wp2
  go_ret2
  exact ⟨rfl, rfl⟩
end Go.Proofs.YtnlnjjcfpbmpmaaDoor

/- strings.Cut at one byte: what the plain function says; nothing that was there is changed. Condition: the text is no longer than a text can be. -/
import Derived.Test.YtnfidloiediflabDoorCommon
import Derived.Test.YtnfidloiediflabDoorPlainP
import Derived.Test.YtnfidloiediflabDoorShelf
namespace Go.Proofs.YtnfidloiediflabDoor
open Go.RowKit

/-- Where the first d is. -/
def whereB (d : UInt8) (l : List UInt8) : Int := match cutB d l with | none => -1 | some x => (x.1.length : Int)
theorem whereB_none {d : UInt8} {l : List UInt8} (h : cutB d l = none) : whereB d l = -1 := by rw [whereB, h]
theorem whereB_some {d : UInt8} {l : List UInt8} {x : List UInt8 × List UInt8} (h : cutB d l = some x) : whereB d l = (x.1.length : Int) := by rw [whereB, h]

theorem indexByte_where (d : UInt8) : ∀ l : List UInt8, Lib.indexByte l d = whereB d l
  | [] => rfl
  | b :: l => by
    rw [Lib.indexByte, indexByte_where d l]
    by_cases h : b = d
    · subst h; simp [whereB, cutB]
    · rw [if_neg (by simpa using h)]
      cases hc : cutB d l with
      | none => simp [whereB, cutB, h, hc]
      | some x =>
        have h1 : ¬ ((x.1.length : Int) == -1) = true := by rw [beq_iff_eq]; omega
        simp only [whereB, cutB, hc, h, if_false, Option.map_some, List.length_cons]
        rw [if_neg h1]
        omega

theorem cutB_none_drop (d : UInt8) (l : List UInt8) (k : Nat) (hk : k < l.length) (h1 : cutB d (l.drop k) = none) : l.getD k 0 ≠ d ∧ cutB d (l.drop (k + 1)) = none := by
  rw [List.drop_eq_getElem_cons hk, cutB] at h1
  split at h1
  · cases h1
  · rename_i e
    refine ⟨by simpa [List.getD_eq_getElem?_getD, List.getElem?_eq_getElem hk] using e, ?_⟩
    cases hc : cutB d (l.drop (k + 1)) with
    | none => rfl
    | some x => rw [hc] at h1; cases h1

theorem ba_cut (d : UInt8) (X : ByteArray) (n v : List UInt8) (h : X.data.toList = n ++ d :: v) : ∃ NM VL : ByteArray, X.extract 0 n.length = NM ∧ X.extract (n.length + 1) X.size = VL ∧ NM.data.toList = n ∧ VL.data.toList = v ∧ X.size = n.length + 1 + v.length := by
  have hl : X.size = n.length + 1 + v.length := by rw [Lib.size_eq, h]; simp; omega
  have e1 : (X.extract 0 n.length).data.toList = n := by rw [Lib.extract_data, h]; simp
  have e2 : (X.extract (n.length + 1) X.size).data.toList = v := by
    rw [Lib.extract_data, h, hl, show n.length + 1 + v.length - (n.length + 1) = v.length from by omega, ← List.drop_drop]
    simp
  exact ⟨_, _, rfl, rfl, e1, e2, hl⟩

theorem ba_inj {a b : ByteArray} (h : a.data.toList = b.data.toList) : a = b := ByteArray.ext (Array.toList_inj.1 h)

theorem lite_none (d : UInt8) (s : ByteArray) (w : World) (h : cutB d s.data.toList = none) :
    Calls Tryd.prog 69 #[.string s, .string ⟨#[d]⟩] w fun e w' => e = .returned (.tuple #[.string s, .string ⟨#[]⟩, .bool false]) ∧ w' = w := by
  have C := Tryd.stringslite_Index_one s d w
  rw [indexByte_where, whereB_none h] at C
  clear h
  have HC : Hid (Calls Tryd.prog 78 #[.string s, .string ⟨#[d]⟩] w fun e w' => e = .returned (.int .i64 (-1)) ∧ w' = w) := C
  clear C
  go_enter Tryd.func69, Tryd.ntmps69
  go_wp2_with fail
  refine HC.out.mono ?_
  rintro e w' ⟨rfl, hw'⟩
  have hw'' := hw'.symm
  subst hw''
  clear HC
  go_wp2
  go_ret3
  exact ⟨rfl, rfl⟩

set_option maxHeartbeats 1000000 in
theorem lite_someW (d : UInt8) (s a r : ByteArray) (w : World) (hs : s.size ≤ 9223372036854775807) (h : cutB d s.data.toList = some (a.data.toList, r.data.toList)) :
    Calls Tryd.prog 69 #[.string s, .string ⟨#[d]⟩] w fun e w' => e = .returned (.tuple #[.string a, .string r, .bool true]) ∧ Below w.heap.size w w' := by
  have C := Tryd.stringslite_Index_one s d w
  rw [indexByte_where, whereB_some h] at C
  simp only at C
  obtain ⟨A, R, h1, h2, h3, h4, h5⟩ := ba_cut d s _ _ (cutB_some d _ _ _ h).1
  have hA := ba_inj h3
  have hR := ba_inj h4
  subst hA hR
  obtain ⟨I, hI⟩ : ∃ I, I = A.data.toList.length := ⟨_, rfl⟩
  rw [← hI] at C h1 h2 h5
  have hI1 : (I : Int) < (s.size : Int) := by omega
  have hI2 : (I : Int) + 1 ≤ (s.size : Int) := by omega
  have HC : Hid (Calls Tryd.prog 78 #[.string s, .string ⟨#[d]⟩] w fun e w' => e = .returned (.int .i64 (I : Int)) ∧ w' = w) := C
  clear C h h3 h4 h5 hI
  go_enter Tryd.func69, Tryd.ntmps69
  go_wp2_with fail
  refine HC.out.mono ?_
  rintro e w' ⟨rfl, hw'⟩
  have hw'' := hw'.symm
  subst hw''
  clear HC
  go_wp2
  go_region
  go_wp2
  go_ret3
  exact ⟨rfl, (Below.refl _ _).drew⟩

theorem cut_none (d : UInt8) (s : ByteArray) (w : World) (h : cutB d s.data.toList = none) :
    Calls Tryd.prog 32 #[.string s, .string ⟨#[d]⟩] w fun e w' => e = .returned (.tuple #[.string s, .string ⟨#[]⟩, .bool false]) ∧ Below w.heap.size w w' := by
  have HC : Hid (Calls Tryd.prog 69 #[.string s, .string ⟨#[d]⟩] w fun e w' => e = .returned (.tuple #[.string s, .string ⟨#[]⟩, .bool false]) ∧ w' = w) := lite_none d s w h
  clear h
  go_enter Tryd.func32, Tryd.ntmps32
  go_wp2_with fail
  refine HC.out.mono ?_
  rintro e w' ⟨rfl, hw'⟩
  have hw'' := hw'.symm
  subst hw''
  clear HC
  go_wp2
  go_ret3
  exact ⟨rfl, Below.refl _ _⟩
theorem cut_someW (d : UInt8) (s a r : ByteArray) (w : World) (hs : s.size ≤ 9223372036854775807) (h : cutB d s.data.toList = some (a.data.toList, r.data.toList)) :
    Calls Tryd.prog 32 #[.string s, .string ⟨#[d]⟩] w fun e w' => e = .returned (.tuple #[.string a, .string r, .bool true]) ∧ Below w.heap.size w w' := by
  have HC : Hid (Calls Tryd.prog 69 #[.string s, .string ⟨#[d]⟩] w fun e w' => e = .returned (.tuple #[.string a, .string r, .bool true]) ∧ Below w.heap.size w w') := lite_someW d s a r w hs h
  clear h
  go_enter Tryd.func32, Tryd.ntmps32
  go_wp2_with fail
  refine HC.out.mono ?_
  rintro e w' ⟨rfl, hb⟩
  clear HC
  go_wp2
  go_ret3
  exact ⟨rfl, hb⟩
theorem cut_some (d : UInt8) (s a r : ByteArray) (w : World) (hs : s.size ≤ 1000000000) (h : cutB d s.data.toList = some (a.data.toList, r.data.toList)) :
    Calls Tryd.prog 32 #[.string s, .string ⟨#[d]⟩] w fun e w' => e = .returned (.tuple #[.string a, .string r, .bool true]) ∧ Below w.heap.size w w' :=
  cut_someW d s a r w (by omega) h

/-- What is ahead of, and behind, a byte, as texts. -/
theorem cut_parts {d : UInt8} {s : ByteArray} {x : List UInt8 × List UInt8} (h : cutB d s.data.toList = some x) : ∃ a r : ByteArray, x = (a.data.toList, r.data.toList) ∧ s.size = a.size + 1 + r.size := by
  refine ⟨⟨x.1.toArray⟩, ⟨x.2.toArray⟩, rfl, ?_⟩
  have e := (cutB_some d s.data.toList x.1 x.2 h).1
  rw [Lib.size_eq, e, Lib.size_eq, Lib.size_eq]
  simp only [List.length_append, List.length_cons]
  omega

end Go.Proofs.YtnfidloiediflabDoor

/- header.Token: what the plain function says; nothing that was there is changed. Condition: the text is no longer than a text can be. -/
import Derived.Test.YtehiaenicfmpbaaDoorCommon
import Derived.Test.YtehiaenicfmpbaaDoorPlainH
import Derived.Test.YtehiaenicfmpbaaDoorShelf
namespace Go.Proofs.YtehiaenicfmpbaaDoor
open Go.RowKit

theorem dropB (s : ByteArray) (k : Nat) (h : k < s.size) : s.data.toList.drop k = s[k] :: s.data.toList.drop (k + 1) := by
  rw [List.drop_eq_getElem_cons (by simpa using h)]; rfl

theorem ix_any (s : ByteArray) (l : List UInt8) (hs : s.data.toList = l) (c : UInt8) (cc : Int) (e : cc = (c.toNat : Int)) (w : World) :
    Calls Tryd.prog 100 #[.string s, .int .u8 cc] w fun e w' => ∃ i : Int, e = .returned (.int .i64 i) ∧ decide (0 ≤ i) = l.contains c ∧ w' = w := by
  subst e hs
  refine (Tryd.strings_IndexByte s (c.toNat : Int) w).mono ?_
  rintro e w' ⟨rfl, rfl⟩
  refine ⟨_, rfl, ?_, rfl⟩
  rw [indexByte_mem]
  simp

theorem tokc_any (c : UInt8) (w : World) : Calls Tryd.prog 99 #[.int .u8 (c.toNat : Int)] w fun e w' => e = .returned (.bool (inB 33 126 specials c)) ∧ w' = w := by
  by_cases h1 : 33 ≤ c.toNat
  · have h1' : (33 : Int) ≤ (c.toNat : Int) := by omega
    by_cases h2 : c.toNat ≤ 126
    · have h2' : (c.toNat : Int) ≤ 126 := by omega
      have HN : Hid (inB 33 126 specials c = !specials.contains c) := by unfold Hid inB; simp only [h1, h2]; simp
      have hi9 : ∀ i : Int, decide (0 ≤ i) = specials.contains c → decide (i < 0) = !specials.contains c := by
        intro i h; rw [← h]; by_cases hi : 0 ≤ i <;> simp [hi] <;> omega
      go_enter Tryd.func99, Tryd.ntmps99
      go_wp2_with fail
      refine (ix_any _ specials rfl c _ rfl _).mono ?_
      rintro e w' ⟨i, rfl, hi, hw'⟩
      have hw'' := hw'.symm
      subst hw''
      have h3 := hi9 i hi
      clear hi hi9
      go_wp2
      go_ret
      exact ⟨by rw [HN.out]; simp, rfl⟩
    · have h2' : decide ((c.toNat : Int) ≤ 126) = false := by simp; omega
      have HN : Hid (inB 33 126 specials c = false) := by unfold Hid inB; simp only [h2]; simp
      go_enter Tryd.func99, Tryd.ntmps99
      go_wp2
      go_ret
      exact ⟨by rw [HN.out]; rfl, rfl⟩
  · have h1' : decide ((33 : Int) ≤ (c.toNat : Int)) = false := by simp; omega
    have HN : Hid (inB 33 126 specials c = false) := by unfold Hid inB; simp only [h1]; simp
    go_enter Tryd.func99, Tryd.ntmps99
    go_wp2
    go_ret
    exact ⟨by rw [HN.out]; rfl, rfl⟩

def allB (p : UInt8 → Bool) (l : List UInt8) : Bool := l.all p
theorem allB_cons (p : UInt8 → Bool) (c : UInt8) (l : List UInt8) : allB p (c :: l) = (p c && allB p l) := rfl
def tokB : UInt8 → Bool := inB 33 126 specials
def valB : UInt8 → Bool := inB 32 126 []

set_option maxHeartbeats 1000000 in
theorem every_tok (s : ByteArray) (w : World) (hs : s.size ≤ 1000000) :
    Calls Tryd.prog 98 #[.string s, .func (Fn.func 99) #[] #[]] w fun e w' => e = .returned (.bool (allB tokB s.data.toList)) ∧ w' = w := by
  go_enter Tryd.func98, Tryd.ntmps98
  go_wp2
  go_loop [8] (fun iv => ∃ k : Nat, k ≤ s.size ∧ iv = .int .i64 k ∧ Hid (allB tokB (s.data.toList.drop k) = allB tokB s.data.toList)) (fun iv => s.size - (intOf iv).toNat)
  case atStart => exact ⟨0, Nat.zero_le _, rfl, rfl⟩
  case round =>
    obtain ⟨k, hk, rfl, HK⟩ := hrel
    by_cases hlt : k < s.size
    · have hdr : Hid (allB tokB (s.data.toList.drop k) = (tokB s[k] && allB tokB (s.data.toList.drop (k + 1)))) := by unfold Hid; rw [dropB s k hlt, allB_cons]
      cases hp : tokB s[k]
      · have HN : Hid (allB tokB s.data.toList = false) := by unfold Hid; rw [← HK.out, hdr.out, hp]; rfl
        have C : Hid (∀ w, Calls Tryd.prog 99 #[.int .u8 (s[k].toNat : Int)] w fun e w' => e = .returned (.bool false) ∧ w' = w) := by intro w; rw [← hp]; exact tokc_any _ w
        clear hdr HK hp
        go_wp2_with fail
        refine (C.out _).mono ?_
        rintro e w' ⟨rfl, hw'⟩
        have hw'' := hw'.symm
        subst hw''
        go_wp2
        go_ret
        exact ⟨by rw [HN.out]; rfl, rfl⟩
      · have HN : Hid (allB tokB (s.data.toList.drop (k + 1)) = allB tokB s.data.toList) := by unfold Hid; rw [← HK.out, hdr.out, hp]; rfl
        have C : Hid (∀ w, Calls Tryd.prog 99 #[.int .u8 (s[k].toNat : Int)] w fun e w' => e = .returned (.bool true) ∧ w' = w) := by intro w; rw [← hp]; exact tokc_any _ w
        clear hdr HK hp
        go_wp2_with fail
        refine (C.out _).mono ?_
        rintro e w' ⟨rfl, hw'⟩
        have hw'' := hw'.symm
        subst hw''
        go_wp2
        go_round
        case rel => exact ⟨k + 1, by omega, by go_num, HN⟩
        case measure => simp [intOf]; omega
    · obtain rfl : k = s.size := by omega
      have HN : Hid (allB tokB s.data.toList = true) := by
        unfold Hid
        rw [← HK.out, List.drop_of_length_le (by rw [← Lib.size_eq]; exact Nat.le_refl _)]; rfl
      clear HK
      go_wp2
      go_ret
      exact ⟨by rw [HN.out]; rfl, rfl⟩

/-- header.Token. -/
theorem htok_any (s : ByteArray) (w : World) (hs : s.size ≤ maxLen) :
    Calls Tryd.prog 34 #[.string s] w fun e w' => e = .returned (.bool (tokenS s.data.toList)) ∧ w' = w := by
  unfold maxLen at hs
  have hle := Lib.size_eq s
  by_cases h1 : 1 ≤ s.size
  · have hne : s.toList.isEmpty = false := by
      rw [ByteArray.toList_eq]
      cases h : s.data.toList with
      | nil => rw [h, List.length_nil] at hle; omega
      | cons a b => rfl
    by_cases h2 : s.size ≤ 30
    · have h2' : (s.size : Int) ≤ 30 := by omega
      have HN : Hid (tokenS s.data.toList = allB tokB s.data.toList) := by unfold Hid tokenS betw allB tokB; rw [← hle]; simp [h1, h2]
      clear hle
      go_enter Tryd.func34, Tryd.ntmps34
      go_wp2_with fail
      refine (every_tok s _ (by omega)).mono ?_
      rintro e w' ⟨rfl, hw'⟩
      have hw'' := hw'.symm
      subst hw''
      go_wp2
      go_ret
      exact ⟨by rw [HN.out]; rfl, rfl⟩
    · have h2' : decide ((s.size : Int) ≤ 30) = false := by simp; omega
      have HN : Hid (tokenS s.data.toList = false) := by unfold Hid tokenS; rw [← hle]; simp; omega
      clear hle
      go_enter Tryd.func34, Tryd.ntmps34
      go_wp2
      go_ret
      exact ⟨by rw [HN.out]; rfl, rfl⟩
  · obtain rfl : s = ⟨#[]⟩ := by
      apply ByteArray.ext; apply Array.toList_inj.1; exact List.length_eq_zero_iff.1 (by rw [← hle]; omega)
    clear hle h1 hs
    go_enter Tryd.func34, Tryd.ntmps34
    go_wp2
    go_ret
    exact ⟨rfl, rfl⟩

end Go.Proofs.YtehiaenicfmpbaaDoor
